"""Tests of inkghost.panels: point 2 of the document."""

import collections
import itertools
import unittest

from inkghost.errors import BadPanel, InkError
from inkghost.panels import Panel, check_panel
from samples import BOTH, CUBE, FLIP, STRANGE, THREE, example, samples

RIGHT = {"BANKS": (0, 1), "BOUND": 1, "PRICES": (2, 3), "FOLLOWS": THREE}
PARTS = list(RIGHT)
# One wrong value for each part, in the order in which they are checked.
WRONG = {"BANKS": [0, 1], "BOUND": True, "PRICES": (2, 6), "FOLLOWS": {}}


class PanelCase(unittest.TestCase):
    def refused(self, part, banks, bound, prices, follows):
        with self.assertRaises(BadPanel) as caught:
            Panel(banks, bound, prices, follows)
        self.assertEqual(caught.exception.part, part)

    def follows_refused(self, follows, cells=1):
        self.refused("FOLLOWS", (0,) * cells, 1, (1,), follows)


class RightPanelTest(PanelCase):
    def test_properties_are_as_the_parameters(self):
        panel = example()
        self.assertEqual((panel.banks, panel.bound, panel.prices, panel.follows), ((0, 1), 1, (2, 3), THREE))

    def test_parameters_by_their_names(self):
        self.assertEqual(Panel(follows=THREE, prices=(2, 3), bound=1, banks=(0, 1)), example())

    def test_follows_is_ascending_whatever_the_order(self):
        for items in itertools.permutations(CUBE.items()):
            panel = Panel((0, 0, 0), 1, (1,), dict(items))
            self.assertEqual(list(panel.follows.items()), sorted(CUBE.items()))

    def test_banks(self):
        right = [(0,), (0, 0), (0, 1), (1, 0), (0, 0, 0), (0, 0, 1), (0, 1, 0), (1, 0, 0), (0, 1, 1), (1, 0, 1),
                 (1, 1, 0), (0, 1, 2), (0, 2, 1), (1, 0, 2), (1, 2, 0), (2, 0, 1), (2, 1, 0)]
        for cells in range(5):
            for banks in itertools.product(range(-1, 4), repeat=cells):
                picture = "0" * cells
                if banks in right:
                    panel = Panel(banks, 1, (1,) * (max(banks) + 1), {picture: (picture,)})
                    self.assertEqual(panel.banks, banks)
                else:
                    self.refused("BANKS", banks, 1, (1,), {picture: (picture,)})

    def test_bounds(self):
        for cells, most in ((1, 4), (2, 4), (3, 2)):
            picture = "1" * cells
            for bound in range(-2, 8):
                if 1 <= bound <= most:
                    self.assertEqual(Panel((0,) * cells, bound, (1,), {picture: (picture,)}).bound, bound)
                else:
                    self.refused("BOUND", (0,) * cells, bound, (1,), {picture: (picture,)})

    def test_prices(self):
        for prices in itertools.product(range(-1, 8), repeat=2):
            if min(prices) >= 1 and max(prices) <= 5:
                self.assertEqual(Panel((0, 1), 1, prices, THREE).prices, prices)
            else:
                self.refused("PRICES", (0, 1), 1, prices, THREE)

    def test_one_to_five_pictures(self):
        pictures = [f"{number:03b}" for number in range(8)]
        for many in range(9):
            chosen = pictures[:many]
            follows = {picture: tuple(chosen) for picture in chosen}
            if 1 <= many <= 5:
                self.assertEqual(Panel((0, 0, 0), 2, (1,), follows).follows, follows)
            else:
                self.follows_refused(follows, 3)

    def test_a_picture_that_can_follow_itself(self):
        self.assertEqual(Panel((0,), 1, (1,), {"1": ("1",)}).follows, {"1": ("1",)})
        self.assertEqual(Panel((0,), 1, (1,), BOTH).follows, BOTH)


class WrongPanelTest(PanelCase):
    def test_banks_of_a_wrong_kind(self):
        wrong = [*STRANGE, 0, "0", "00", {}, {0: 0}, (), (True,), (False,), (0, True), (False, 1), (None,), ("0",),
                 ((0,),), ([],), (0, None), (0, [1]), (10 ** 40,), (0, 10 ** 40), (0,) * 4, (0, 1, 2, 3)]
        for banks in wrong:
            self.refused("BANKS", banks, 1, (1,), FLIP)

    def test_banks_with_a_gap(self):
        for banks in ((1,), (2,), (1, 1), (0, 2), (2, 0), (1, 2), (0, 0, 2), (0, 2, 2), (1, 2, 3), (1, 1, 1), (-1, 0)):
            picture = "0" * len(banks)
            self.refused("BANKS", banks, 1, (1,), {picture: (picture,)})

    def test_bounds_of_a_wrong_kind(self):
        for bound in [*STRANGE, "1", "", (), (1,), {}, 0, -1, 5, 10 ** 40, -10 ** 40]:
            self.refused("BOUND", (0,), bound, (1,), FLIP)

    def test_more_than_27_ways_for_the_ghosts(self):
        for bound in (3, 4):
            self.refused("BOUND", (0, 0, 0), bound, (1,), CUBE)

    def test_prices_of_a_wrong_kind(self):
        wrong = [*STRANGE, 1, "1", "11", {}, {1: 1, 2: 2}, [2, 3], (), (2,), (2, 3, 1), (True, 2), (2, True),
                 (2, None), (2, "3"), (2, (3,)), (2, [3]), (0, 1), (1, 0), (6, 1), (1, 6), (-1, 1), (1, 10 ** 40)]
        for prices in wrong:
            self.refused("PRICES", (0, 1), 1, prices, THREE)

    def test_a_price_for_each_bank_and_not_for_each_cell(self):
        self.refused("PRICES", (0, 0), 1, (1, 1), THREE)
        self.refused("PRICES", (0, 1), 1, (1,), THREE)
        self.assertEqual(Panel((0, 0), 1, (1,), THREE).prices, (1,))

    def test_follows_of_a_wrong_kind(self):
        for follows in [*STRANGE, 0, "0", "01", (), ("0",), (("0", ("0",)),), [("0", ("0",))], {}]:
            self.follows_refused(follows)

    def test_pictures_of_a_wrong_kind(self):
        for picture in (None, True, False, 0, 1, b"0", (), ("0",), "", "2", "00", "01", " ", "0 ", "a", "\u0660"):
            self.follows_refused({picture: (picture,)})
            self.follows_refused({"0": ("0",), picture: ("0",)})
            self.follows_refused({picture: ("0",), "0": ("0",)})
            self.follows_refused({"0": (picture,), picture: ("0",)})
        self.follows_refused({"00": ("00", "01"), "01": ("00",)}, 1)
        self.follows_refused({"0": ("0",)}, 2)

    def test_pictures_with_other_signs(self):
        for sign in [chr(number) for number in range(256)] + ["\u0660", "\uff11", "\U0001d7ce"]:
            for picture in (sign + "0", "1" + sign):
                if sign in ("0", "1"):
                    self.assertEqual(Panel((0, 0), 1, (1,), {picture: (picture,)}).follows, {picture: (picture,)})
                else:
                    self.follows_refused({picture: (picture,)}, 2)

    def test_pictures_that_follow_of_a_wrong_kind(self):
        for value in [*STRANGE, 0, "0", "01", "", (), {}, {"0": 0}, ["0", "1"], {"0", "1"}]:
            self.follows_refused({"0": value, "1": ("0",)})
            self.follows_refused({"0": ("0", "1"), "1": value})
        for item in [*STRANGE, 0, 1, (), ("1",), {}, "", "2", "01"]:
            self.follows_refused({"0": (item,), "1": ("0",)})
            self.follows_refused({"0": ("0", item), "1": ("0",)})
            self.follows_refused({"0": (item, "1"), "1": ("0",)})

    def test_pictures_that_follow_are_ascending_and_known(self):
        self.follows_refused({"0": ("1", "0"), "1": ("0",)})
        self.follows_refused({"0": ("1", "1"), "1": ("0",)})
        self.follows_refused({"0": ("0", "1", "1"), "1": ("0",)})
        self.follows_refused({"0": ("0", "1")})
        self.follows_refused({"00": ("00", "10"), "10": ("00", "11")}, 2)

    def test_pictures_that_cannot_all_be_reached_from_each_one(self):
        self.follows_refused({"0": ("0",), "1": ("1",)})
        self.follows_refused({"0": ("0", "1"), "1": ("1",)})
        self.follows_refused({"0": ("1",), "1": ("1",)})
        self.follows_refused({"0": ()})
        self.follows_refused({"00": ("01",), "01": ("00",), "10": ("11",), "11": ("10",)}, 2)

    def test_what_can_be_reached_among_three_pictures(self):
        pictures = ("00", "01", "10")
        tuples = [chosen for many in range(4) for chosen in itertools.combinations(pictures, many)]
        accepted = 0
        for values in itertools.product(tuples, repeat=3):
            follows = dict(zip(pictures, values))
            pairs = {(one, two) for one in pictures for two in follows[one]}
            for via, one, two in itertools.product(pictures, repeat=3):
                if (one, via) in pairs and (via, two) in pairs:
                    pairs.add((one, two))
            if len(pairs) == 9:
                accepted += 1
                self.assertEqual(Panel((0, 0), 1, (1,), follows).follows, follows)
            else:
                self.follows_refused(follows, 2)
        # 18 of the strongly connected digraphs on three points, each with any loops.
        self.assertEqual(accepted, 18 * 8)

    def test_the_first_wrong_part_is_named(self):
        for chosen in itertools.product((False, True), repeat=4):
            values = [WRONG[part] if wrong else RIGHT[part] for part, wrong in zip(PARTS, chosen)]
            if any(chosen):
                self.refused(PARTS[chosen.index(True)], *values)
            else:
                self.assertEqual(Panel(*values), example())

    def test_the_error_is_an_ink_error(self):
        with self.assertRaises(InkError):
            Panel(None, None, None, None)


class KeptPanelTest(PanelCase):
    def test_equality(self):
        for one, panel in enumerate(samples()):
            for two, other in enumerate(samples()):
                self.assertEqual(panel == other, one == two)
                self.assertEqual(panel != other, one != two)

    def test_all_four_parts_count(self):
        self.assertEqual(example(), Panel((0, 1), 1, (2, 3), dict(reversed(list(THREE.items())))))
        self.assertNotEqual(example(), Panel((1, 0), 1, (2, 3), THREE))
        self.assertNotEqual(example(), Panel((0, 1), 2, (2, 3), THREE))
        self.assertNotEqual(example(), Panel((0, 1), 1, (3, 2), THREE))
        self.assertNotEqual(example(), Panel((0, 1), 1, (2, 3), {**THREE, "00": ("00", "11")}))

    def test_the_dict_that_was_passed_is_neither_changed_nor_kept(self):
        follows = {"11": ("00", "01"), "00": ("11",), "01": ("00",)}
        panel = Panel((0, 1), 1, (2, 3), follows)
        self.assertEqual(list(follows), ["11", "00", "01"])
        follows["00"] = ("00",)
        del follows["11"]
        self.assertEqual(panel, example())
        self.assertEqual(panel.follows, THREE)

    def test_the_dict_that_is_returned_is_new(self):
        panel = example()
        taken = panel.follows
        taken["00"] = ("00",)
        del taken["11"]
        self.assertEqual(panel.follows, THREE)
        self.assertEqual(panel, example())
        self.assertIsNot(panel.follows, panel.follows)

    def test_properties_cannot_be_assigned(self):
        panel = example()
        for name in ("banks", "bound", "prices", "follows"):
            with self.assertRaises(AttributeError):
                setattr(panel, name, None)
        self.assertEqual(panel, example())

    def test_a_refused_panel_changes_nothing(self):
        follows = collections.defaultdict(tuple, {"0": ("0", "1")})
        self.follows_refused(follows)
        self.assertEqual(list(follows.items()), [("0", ("0", "1"))])
        banks = [0]
        self.refused("BANKS", banks, 1, (1,), FLIP)
        self.assertEqual(banks, [0])

    def test_check_panel(self):
        self.assertIsNone(check_panel(example()))
        for value in [*STRANGE, 0, "", (), {}, Panel, ((0, 1), 1, (2, 3), THREE)]:
            with self.assertRaises(BadPanel) as caught:
                check_panel(value)
            self.assertIsNone(caught.exception.part)


if __name__ == "__main__":
    unittest.main()
