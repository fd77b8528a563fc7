"""Tests of the four rules in inkghost.rules: point 8 of the document."""

import unittest

from inkghost import rules
from inkghost.errors import BadMemory, BadPicture, BadPictures, BadRule
from inkghost.panels import Panel
from inkghost.rules import RULES, due, flashes, follow
from plain import all_roads, rule_flashes, sets_on
from samples import FLIP, STRANGE, all_sets, all_states, example, random_panels, samples
from wrong import NO_PICTURES, DocumentCase

EXAMPLE = """
>>> from inkghost.panels import Panel
>>> from inkghost.rules import due, flashes, follow, worst_mean
>>> panel = Panel((0, 1), 1, (2, 3), {'00': ('11',), '11': ('00', '01'), '01': ('00',)})
>>> rules = [worst_mean(panel, 'due'), worst_mean(panel, 'all'), worst_mean(panel, 'early'), worst_mean(panel, 'turn')]
>>> [rules, due(panel, ('11', (1, 1)), '01'), flashes(panel, 'turn', ('11', (1, 1)), '01', memory=1), follow(panel, 'due', ['11', '01', '00'])]
[[(5, 2), (5, 2), (5, 1), (5, 2)], (0,), (0, 1), [(), (0,), (1,)]]
"""

# Nothing here is one of the words for the rules.
NO_RULES = [*STRANGE, 0, "", "Due", "due ", "ALL", "turns", "rest", "d", b"due", ("due",), ["due"], {"due": 1}, (), {},
            ("due", "all", "early", "turn")]
NO_MEMORIES = [*STRANGE, -1, 2, 3, 10 ** 30, "", "0", (), (0,), {}]


def three():
    """Make a panel with three banks, in which the cells 0 and 1 are in one of them."""
    return Panel((2, 0, 1), 2, (1, 2, 3), {"000": ("011", "100"), "011": ("000",), "100": ("000",)})


class RulesTest(DocumentCase):
    def test_the_example_of_the_interface(self):
        self.example_holds(EXAMPLE, 5)

    def test_the_words(self):
        self.assertEqual(RULES, ("due", "all", "early", "turn"))
        self.assertIs(type(RULES), tuple)

    def test_due(self):
        panel = three()
        self.assertEqual(due(panel, ("000", (2, 2, 2)), "011"), (0, 1))
        self.assertEqual(due(panel, ("000", (2, 2, 2)), "100"), (2,))
        self.assertEqual(due(panel, ("000", (2, 1, 1)), "011"), ())
        self.assertEqual(due(panel, ("000", (0, 1, 2)), "011"), (1,))

    def test_one_cell_makes_its_whole_bank_due(self):
        panel = Panel((1, 0, 1), 2, (1, 1), {"000": ("001",), "001": ("000",)})
        self.assertEqual(due(panel, ("000", (0, 2, 2)), "001"), (1,))
        self.assertEqual(due(panel, ("000", (2, 2, 1)), "001"), ())

    def test_the_rule_due(self):
        self.assertEqual(flashes(three(), "due", ("000", (2, 2, 2)), "011"), (0, 1))
        self.assertEqual(flashes(three(), "due", ("000", (2, 1, 1)), "011"), ())

    def test_the_rule_all(self):
        self.assertEqual(flashes(three(), "all", ("000", (0, 2, 0)), "011"), (0, 1, 2))
        self.assertEqual(flashes(three(), "all", ("000", (2, 1, 1)), "011"), ())

    def test_the_rule_early(self):
        panel = three()
        # The ghost of the first cell would stay the bound, and those of the others would become it.
        self.assertEqual(flashes(panel, "early", ("000", (2, 1, 1)), "011"), (0, 1, 2))
        self.assertEqual(flashes(panel, "early", ("000", (1, 2, 0)), "011"), (0,))
        self.assertEqual(flashes(panel, "early", ("000", (1, 0, 0)), "011"), ())
        self.assertEqual(flashes(panel, "early", ("000", (1, 1, 2)), "100"), (1, 2))

    def test_the_rule_turn(self):
        panel = three()
        for memory in range(3):
            self.assertEqual(flashes(panel, "turn", ("000", (0, 0, 0)), "011", memory=memory), (memory,))
        self.assertEqual(flashes(panel, "turn", ("000", (0, 0, 2)), "011", memory=2), (1, 2))
        self.assertEqual(flashes(panel, "turn", ("000", (0, 0, 2)), "011", memory=1), (1,))
        self.assertEqual(flashes(panel, "turn", ("000", (0, 0, 2)), "011"), (0, 1))

    def test_all_states_rules_and_memories(self):
        for panel in [*samples(), *random_panels(81, 30)]:
            for state in all_states(panel):
                for picture in panel.follows[state[0]]:
                    self.assertEqual(due(panel, state, picture), rule_flashes(panel, "due", state, picture, 0))
                    for rule in RULES:
                        for memory in range(len(panel.prices) if rule == "turn" else 1):
                            found = flashes(panel, rule, state, picture, memory=memory)
                            self.assertEqual(found, rule_flashes(panel, rule, state, picture, memory))
                            self.assertIn(found, all_sets(panel))
                        self.assertEqual(flashes(panel, rule, state, picture),
                                         rule_flashes(panel, rule, state, picture, 0))

    def test_errors_of_due_in_order(self):
        self.panel_refused(due, None, None)
        self.panel_refused(due, ("00", (0, 0)), "11")
        self.state_refused(due, "11")
        self.state_refused(due, None)
        for picture in NO_PICTURES:
            with self.assertRaises(BadPicture):
                due(example(), ("11", (1, 0)), picture)

    def test_errors_of_flashes_in_order(self):
        self.panel_refused(flashes, "due", ("00", (0, 0)), "11")
        self.panel_refused(flashes, None, None, None, memory=None)
        for rule in NO_RULES:
            for rest in ((("00", (0, 0)), "11", 0), (None, "11", 0), (None, None, None)):
                with self.assertRaises(BadRule):
                    flashes(example(), rule, *rest[:2], memory=rest[2])
        for rule in RULES:
            for picture, memory in (("11", 0), (None, 0), ("11", 7), (None, None)):
                self.state_refused(lambda panel, state: flashes(panel, rule, state, picture, memory=memory))
            for picture in NO_PICTURES:
                for memory in (0, 7):
                    with self.assertRaises(BadPicture):
                        flashes(example(), rule, ("11", (1, 0)), picture, memory=memory)
            for memory in NO_MEMORIES:
                with self.assertRaises(BadMemory):
                    flashes(example(), rule, ("11", (1, 0)), "00", memory=memory)

    def test_memories_of_the_rules(self):
        for rule in ("due", "all", "early"):
            with self.assertRaises(BadMemory):
                flashes(example(), rule, ("11", (1, 0)), "00", memory=1)
        self.assertEqual(flashes(example(), "turn", ("11", (1, 0)), "00", memory=1), (0, 1))
        with self.assertRaises(BadMemory):
            flashes(Panel((0, 0), 1, (1,), example().follows), "turn", ("11", (1, 0)), "00", memory=1)


class FollowTest(DocumentCase):
    def test_an_empty_road(self):
        for rule in RULES:
            self.assertEqual(follow(example(), rule, []), [])
            self.assertEqual(follow(example(), rule, ()), [])

    def test_the_memory_goes_through_all_banks(self):
        panel = Panel((2, 0, 1), 2, (1, 2, 3), {"000": ("000",)})
        self.assertEqual(follow(panel, "turn", ["000"] * 7), [(0,), (1,), (2,), (0,), (1,), (2,), (0,)])
        self.assertEqual(follow(Panel((0,), 4, (1,), FLIP), "turn", ["1", "0", "1"]), [(0,), (0,), (0,)])
        self.assertEqual(follow(panel, "early", ["000"] * 3), [(), (), ()])

    def test_roads_that_are_known(self):
        panel = Panel((0,), 2, (1,), FLIP)
        self.assertEqual(follow(panel, "due", ["1", "0", "1", "0"]), [(), (), (0,), ()])
        self.assertEqual(follow(panel, "early", ["1", "0", "1", "0"]), [(), (0,), (), (0,)])
        self.assertEqual(follow(panel, "all", ("1", "0", "1", "0")), [(), (), (0,), ()])

    def test_all_roads(self):
        for panel in [*samples(), *random_panels(82, 20)]:
            for rule in RULES:
                for length in (1, 2, 4, 6):
                    for road in all_roads(panel, length)[:40]:
                        self.assertEqual(follow(panel, rule, road), sets_on(panel, rule, road))
                        self.assertEqual(follow(panel, rule, tuple(road)), sets_on(panel, rule, road))

    def test_the_first_picture_that_cannot_follow(self):
        wrong = {0: ["00"], 1: ["11", "11", None], 2: ["11", "01", "11"], 3: ["11", "00", "11", [], "00"]}
        for index, pictures in wrong.items():
            for road in (pictures, tuple(pictures)):
                with self.assertRaises(BadPictures) as caught:
                    follow(example(), "due", road)
                self.assertEqual(caught.exception.index, index)
        for picture in NO_PICTURES:
            for road in (["11", picture], ["11", picture, None], ("11", picture)):
                with self.assertRaises(BadPictures) as caught:
                    follow(example(), "turn", road)
                self.assertEqual(caught.exception.index, 1)

    def test_not_a_list_or_tuple(self):
        for value in [*STRANGE, 0, "", "11", {}, {"11": 1}, iter(["11"])]:
            if not isinstance(value, list):
                with self.assertRaises(BadPictures) as caught:
                    follow(example(), "due", value)
                self.assertIsNone(caught.exception.index)

    def test_errors_in_order(self):
        for rest in (("due", ["11"]), (None, ["11"]), ("due", None), (None, None)):
            self.panel_refused(follow, *rest)
        for rule in NO_RULES:
            for pictures in (["11"], ["00"], None):
                with self.assertRaises(BadRule):
                    follow(example(), rule, pictures)

    def test_the_road_is_neither_kept_nor_changed(self):
        panel, road = example(), ["11", "01"]
        found = follow(panel, "due", road)
        self.assertEqual(road, ["11", "01"])
        road.append("00")
        found.clear()
        self.assertEqual(follow(panel, "due", ["11", "01"]), [(), (0,)])
        wrong = ["11", "11"]
        with self.assertRaises(BadPictures):
            follow(panel, "due", wrong)
        self.assertEqual(wrong, ["11", "11"])
        self.assertEqual(panel, example())


class NamesTest(DocumentCase):
    def test_names(self):
        self.names_are_defined_in(rules, "due", "flashes", "follow", "worst", "worst_mean", "Worst", "compare",
                                  "are_alike", "Alike", "Apart")
        panel = example()
        self.assertEqual(due(picture="01", state=("11", (1, 1)), panel=panel), (0,))
        self.assertEqual(flashes(memory=1, picture="01", state=("11", (1, 1)), rule="turn", panel=panel), (0, 1))
        self.assertEqual(follow(pictures=["11"], rule="due", panel=panel), [()])

    def test_the_memory_is_passed_by_its_name_only(self):
        with self.assertRaises(TypeError):
            flashes(example(), "turn", ("11", (1, 1)), "01", 1)


if __name__ == "__main__":
    unittest.main()
