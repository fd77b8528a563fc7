"""Tests of inkghost.states: points 3 and 4 of the document."""

import unittest

from inkghost.errors import BadBanks, BadPicture, BadState
from inkghost.panels import Panel
from inkghost.states import after, choices, price, start, states
from samples import BOTH, FLIP, THREE, all_sets, all_states, example, led_to, must_flash, samples
from wrong import NO_BANKS, NO_PICTURES, NO_STATES, DocumentCase

EXAMPLE = """
>>> from inkghost.panels import Panel
>>> from inkghost.states import after, choices, price, start, states
>>> panel = Panel((0, 1), 1, (2, 3), {'00': ('11',), '11': ('00', '01'), '01': ('00',)})
>>> state = after(panel, start(panel), '11', ())
>>> [start(panel), state, choices(panel, state, '00'), choices(panel, state, '01'), after(panel, state, '01', (0,)), price(panel, (0, 1)), len(states(panel))]
[('00', (0, 0)), ('11', (1, 1)), [(0, 1)], [(0,), (0, 1)], ('01', (0, 1)), 5, 12]
"""


class ExampleTest(DocumentCase):
    def test_the_example_of_the_interface(self):
        self.example_holds(EXAMPLE, 5)


class StartTest(DocumentCase):
    def test_the_first_picture_without_ghosts(self):
        self.assertEqual(start(example()), ("00", (0, 0)))
        self.assertEqual(start(Panel((0,), 4, (1,), FLIP)), ("0", (0,)))
        self.assertEqual(start(Panel((0,), 1, (1,), {"1": ("1",)})), ("1", (0,)))

    def test_the_first_picture_in_the_order_of_strings_and_not_of_the_dict(self):
        follows = {"110": ("011",), "101": ("110",), "011": ("101",)}
        self.assertEqual(start(Panel((0, 1, 2), 1, (1, 1, 1), follows)), ("011", (0, 0, 0)))

    def test_not_a_panel(self):
        self.panel_refused(start)


class AllStatesTest(DocumentCase):
    def test_small_panels(self):
        self.assertEqual(states(Panel((0,), 1, (1,), {"0": ("0",)})), [("0", (0,))])
        self.assertEqual(states(Panel((0,), 1, (1,), FLIP)),
                         [("0", (0,)), ("0", (1,)), ("1", (0,)), ("1", (1,))])
        self.assertEqual(states(example()), all_states(example()))

    def test_states_that_cannot_come_about_are_left_out(self):
        # The first cell never changes, so that it never has a ghost.
        panel = Panel((0, 1), 2, (1, 1), {"00": ("01",), "01": ("00",)})
        self.assertEqual(states(panel), [(picture, (0, ghost)) for picture in ("00", "01") for ghost in range(3)])
        # Both cells always change together, and are flashed together.
        panel = Panel((0, 0), 1, (1,), {"00": ("11",), "11": ("00",)})
        self.assertEqual(states(panel), [(picture, (ghost, ghost)) for picture in ("00", "11") for ghost in range(2)])

    def test_as_a_plain_search_finds_them(self):
        for panel in samples():
            found = {start(panel)}
            while True:
                more = {led_to(panel, state, picture, banks) for state in found for picture in panel.follows[state[0]]
                        for banks in all_sets(panel) if must_flash(panel, state, picture) <= set(banks)}
                if more <= found:
                    break
                found |= more
            self.assertEqual(states(panel), sorted(found))

    def test_the_list_is_new(self):
        panel = example()
        states(panel).clear()
        self.assertEqual(len(states(panel)), 12)
        self.assertEqual(panel, example())

    def test_not_a_panel(self):
        self.panel_refused(states)


class ChoicesTest(DocumentCase):
    def test_order_by_size_and_then_as_tuples(self):
        panel = Panel((2, 0, 1), 1, (1, 1, 1), {"000": ("000",)})
        expected = [(), (0,), (1,), (2,), (0, 1), (0, 2), (1, 2), (0, 1, 2)]
        self.assertEqual(choices(panel, start(panel), "000"), expected)

    def test_a_ghost_that_stays_the_bound_needs_no_flash(self):
        self.assertEqual(choices(Panel((0,), 1, (1,), BOTH), ("1", (1,)), "1"), [(), (0,)])
        self.assertEqual(choices(Panel((0,), 1, (1,), BOTH), ("1", (1,)), "0"), [(0,)])
        self.assertEqual(choices(Panel((0,), 4, (1,), FLIP), ("1", (3,)), "0"), [(), (0,)])
        self.assertEqual(choices(Panel((0,), 4, (1,), FLIP), ("1", (4,)), "0"), [(0,)])

    def test_one_cell_makes_its_whole_bank_due(self):
        panel = Panel((1, 0, 1), 2, (1, 1), {"000": ("001",), "001": ("000",)})
        self.assertEqual(choices(panel, ("000", (0, 0, 2)), "001"), [(1,), (0, 1)])
        self.assertEqual(choices(panel, ("000", (2, 2, 1)), "001"), [(), (0,), (1,), (0, 1)])

    def test_states_that_cannot_come_about(self):
        panel = Panel((0, 1), 2, (1, 1), {"00": ("01",), "01": ("00",)})
        self.assertEqual(choices(panel, ("00", (2, 2)), "01"), [(1,), (0, 1)])

    def test_all_states_and_pictures(self):
        for panel in samples():
            for state in all_states(panel):
                for picture in panel.follows[state[0]]:
                    due = must_flash(panel, state, picture)
                    expected = [banks for banks in all_sets(panel) if due <= set(banks)]
                    self.assertEqual(choices(panel, state, picture), expected)
                    self.assertEqual(expected[-1], tuple(range(len(panel.prices))))

    def test_the_list_is_new(self):
        panel = example()
        choices(panel, start(panel), "11").clear()
        self.assertEqual(choices(panel, start(panel), "11"), [(), (0,), (1,), (0, 1)])

    def test_errors_in_order(self):
        self.panel_refused(choices, None, None)
        self.panel_refused(choices, ("00", (0, 0)), "11")
        for state in NO_STATES:
            for picture in ("11", None):
                with self.assertRaises(BadState):
                    choices(example(), state, picture)
        for picture in NO_PICTURES:
            with self.assertRaises(BadPicture):
                choices(example(), ("11", (1, 0)), picture)

    def test_a_picture_that_follows_another_one_cannot_come(self):
        for state in all_states(example()):
            for picture in ("00", "01", "10", "11"):
                if picture not in THREE[state[0]]:
                    with self.assertRaises(BadPicture):
                        choices(example(), state, picture)


class AfterTest(DocumentCase):
    def test_changed_cells_and_others(self):
        panel = Panel((0, 1, 1), 2, (1, 1), {"000": ("011",), "011": ("000",)})
        self.assertEqual(after(panel, ("000", (1, 1, 0)), "011", ()), ("011", (1, 2, 1)))
        self.assertEqual(after(panel, ("000", (1, 1, 0)), "011", (0,)), ("011", (0, 2, 1)))
        self.assertEqual(after(panel, ("000", (1, 1, 0)), "011", (1,)), ("011", (1, 0, 0)))
        self.assertEqual(after(panel, ("000", (1, 2, 2)), "011", (0, 1)), ("011", (0, 0, 0)))

    def test_a_picture_that_follows_itself_leaves_all_ghosts(self):
        panel = Panel((0,), 4, (1,), BOTH)
        for ghost in range(5):
            self.assertEqual(after(panel, ("1", (ghost,)), "1", ()), ("1", (ghost,)))
            self.assertEqual(after(panel, ("1", (ghost,)), "1", (0,)), ("1", (0,)))

    def test_all_states_pictures_and_sets(self):
        for panel in samples():
            for state in all_states(panel):
                for picture in panel.follows[state[0]]:
                    for banks in all_sets(panel):
                        if must_flash(panel, state, picture) <= set(banks):
                            self.assertEqual(after(panel, state, picture, banks), led_to(panel, state, picture, banks))
                        else:
                            with self.assertRaises(BadBanks):
                                after(panel, state, picture, banks)

    def test_errors_in_order(self):
        self.panel_refused(after, None, None, None)
        self.panel_refused(after, ("00", (0, 0)), "11", ())
        for state in NO_STATES:
            for picture, banks in (("11", ()), ("11", None), (None, ()), (None, None)):
                with self.assertRaises(BadState):
                    after(example(), state, picture, banks)
        for picture in NO_PICTURES:
            for banks in ((0, 1), None):
                with self.assertRaises(BadPicture):
                    after(example(), ("11", (1, 0)), picture, banks)
        for banks in NO_BANKS:
            with self.assertRaises(BadBanks):
                after(example(), start(example()), "11", banks)

    def test_a_refused_update_changes_nothing(self):
        panel, banks = example(), [0]
        with self.assertRaises(BadBanks):
            after(panel, ("11", (1, 1)), "01", banks)
        self.assertEqual(banks, [0])
        self.assertEqual(panel, example())
        self.assertEqual(after(panel, ("11", (1, 1)), "01", (0,)), ("01", (0, 1)))


class PriceTest(DocumentCase):
    def test_sums_of_prices(self):
        panel = Panel((2, 0, 1), 1, (1, 2, 5), {"000": ("000",)})
        expected = {(): 0, (0,): 1, (1,): 2, (2,): 5, (0, 1): 3, (0, 2): 6, (1, 2): 7, (0, 1, 2): 8}
        self.assertEqual({banks: price(panel, banks) for banks in expected}, expected)

    def test_a_price_is_paid_for_a_bank_and_not_for_its_cells(self):
        self.assertEqual(price(Panel((0, 0), 1, (4,), THREE), (0,)), 4)

    def test_errors_in_order(self):
        self.panel_refused(price, None)
        self.panel_refused(price, (0,))
        for banks in NO_BANKS:
            with self.assertRaises(BadBanks):
                price(example(), banks)

    def test_banks_of_the_panel_and_not_of_another_one(self):
        with self.assertRaises(BadBanks):
            price(Panel((0, 0), 1, (4,), THREE), (1,))


class NamesTest(unittest.TestCase):
    def test_parameters_by_their_names(self):
        panel = example()
        self.assertEqual(start(panel=panel), ("00", (0, 0)))
        self.assertEqual(len(states(panel=panel)), 12)
        self.assertEqual(choices(picture="00", state=("11", (1, 1)), panel=panel), [(0, 1)])
        self.assertEqual(after(banks=(0,), picture="01", state=("11", (1, 1)), panel=panel), ("01", (0, 1)))
        self.assertEqual(price(banks=(1,), panel=panel), 3)

    def test_functions_are_defined_where_the_interface_lists_them(self):
        for function in (start, states, choices, after, price):
            self.assertEqual(function.__module__, "inkghost.states")
        self.assertEqual(Panel.__module__, "inkghost.panels")


if __name__ == "__main__":
    unittest.main()
