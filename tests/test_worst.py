"""Tests of the worst rounds in inkghost.rules: point 9 of the document."""

import random
import unittest
from fractions import Fraction

from inkghost.errors import BadRule
from inkghost.means import least_mean
from inkghost.panels import Panel
from inkghost.rules import RULES, Worst, worst, worst_mean
from plain import greatest_mean, means_of_rounds, rule_graph, worst_shown
from samples import BOTH, FLIP, all_states, example, random_panels, samples
from test_rules import NO_RULES
from wrong import DocumentCase

EXAMPLE = """
>>> from inkghost.panels import Panel
>>> from inkghost.rules import compare, due, worst
>>> panel = Panel((0, 1), 1, (2, 3), {'00': ('11',), '11': ('00', '01'), '01': ('00',)})
>>> [compare(panel, 'due', 'all').pictures, worst(panel, 'turn').shows(panel, 'turn')]
[['11', '01'], True]
"""

ZERO, ONE = (("0", (0,)), 0), (("1", (1,)), 0)
HEIGHTS = {ZERO: 0, ONE: 1}


def small():
    """Make a panel in which a cell that is flashed at 0 has no ghost, and a ghost at 1."""
    return Panel((0,), 1, (1,), FLIP)


def parts_of(found):
    return {"mean": found.mean, "road": found.road, "turn": found.turn, "heights": found.heights}


def with_parts(found, **parts):
    return Worst(**{**parts_of(found), **parts})


def backwards(items):
    return dict(reversed(list(items.items())))


class RightWorstTest(DocumentCase):
    def test_the_example_of_the_interface(self):
        self.example_holds(EXAMPLE, 4)

    def test_means_that_are_known(self):
        self.assertEqual([worst_mean(small(), rule) for rule in RULES], [(1, 2), (1, 2), (1, 1), (1, 1)])
        panel = Panel((0,), 3, (2,), FLIP)
        self.assertEqual([worst_mean(panel, rule) for rule in RULES], [(1, 2), (1, 2), (2, 3), (2, 1)])
        panel = Panel((0,), 2, (3,), {"1": ("1",)})
        self.assertEqual([worst_mean(panel, rule) for rule in RULES], [(0, 1), (0, 1), (0, 1), (3, 1)])

    def test_a_round_of_one_picture(self):
        panel = Panel((0, 1), 2, (4, 2), {"01": ("01",)})
        self.assertEqual(worst(panel, "due").turn, ["01"])
        self.assertEqual(worst_mean(panel, "due"), (0, 1))
        found = worst(panel, "turn")
        self.assertEqual((found.mean, found.turn), ((3, 1), ["01", "01"]))
        self.assertTrue(found.shows(panel, "turn"))

    def test_many_panels(self):
        for panel in [*samples(), *random_panels(91, 45)]:
            for rule in RULES:
                found = worst(panel, rule)
                self.assertEqual(found.mean, greatest_mean(panel, rule))
                self.assertEqual(worst_mean(panel, rule), found.mean)
                self.assertTrue(worst_shown(panel, rule, found))
                self.assertIs(found.shows(panel, rule), True)
                self.assertGreaterEqual(Fraction(*found.mean), Fraction(*least_mean(panel)))

    def test_to_flash_only_what_is_due_is_best(self):
        # A flash of a bank that is not due can wait until it is, and leaves no greater ghosts then.
        for panel in random_panels(93, 60):
            self.assertEqual(worst_mean(panel, "due"), least_mean(panel))

    def test_as_all_rounds_have_it(self):
        panels = [panel for panel in random_panels(92, 60) if len(all_states(panel)) <= 12]
        self.assertGreater(len(panels), 15)
        for panel in panels:
            for rule in RULES:
                graph = rule_graph(panel, rule)
                steps = {seat: [move[1:] for move in graph[seat]] for seat in graph}
                best = max(means_of_rounds(steps, ((min(panel.follows), (0,) * len(panel.banks)), 0)))
                self.assertEqual(worst_mean(panel, rule), (best.numerator, best.denominator))

    def test_the_kinds_of_the_attributes(self):
        for panel in samples():
            for rule in RULES:
                found = worst(panel, rule)
                self.assertIsInstance(found, Worst)
                self.assertEqual([type(part) for part in parts_of(found).values()], [tuple, list, list, dict])
                self.assertTrue(all(type(number) is int for number in [*found.mean, *found.heights.values()]))
                for state, memory in found.heights:
                    self.assertIn(state, all_states(panel))
                    self.assertIn(memory, range(len(panel.prices) if rule == "turn" else 1))


class ShowsTest(DocumentCase):
    def setUp(self):
        self.panel = small()
        self.found = Worst((1, 2), [], ["1", "0"], HEIGHTS)

    def holds(self, **parts):
        found = with_parts(self.found, **parts)
        self.assertEqual(found.shows(self.panel, "due"), worst_shown(self.panel, "due", found))
        return found.shows(self.panel, "due")

    def test_right_evidence(self):
        self.assertIs(self.holds(), True)
        self.assertTrue(self.holds(heights=backwards(HEIGHTS)))
        self.assertTrue(self.holds(heights={seat: height - 10 ** 30 for seat, height in HEIGHTS.items()}))
        self.assertTrue(self.holds(road=["1"], turn=["0", "1"]))
        self.assertTrue(self.holds(road=["1", "0", "1", "0"], turn=["1", "0", "1", "0"]))
        more = {(("1", (0,)), 0): 5, (("0", (1,)), 0): 6}
        self.assertTrue(self.holds(heights={**HEIGHTS, **more}))

    def test_pairs_that_are_wrong(self):
        for pair in ((2, 4), (-1, -2), (0, 1), (1, 1), (1, 3), (2, 3), (0, 0), (1, 0), (-1, 2), (1, -2), (0, 2)):
            self.assertFalse(self.holds(mean=pair), pair)
        doubled = {seat: 2 * height for seat, height in HEIGHTS.items()}
        self.assertFalse(self.holds(mean=(2, 4), heights=doubled))

    def test_zero_has_one_form(self):
        panel, seat = Panel((0,), 2, (3,), {"1": ("1",)}), (("1", (0,)), 0)
        self.assertTrue(Worst((0, 1), [], ["1"], {seat: 0}).shows(panel, "all"))
        for pair in ((0, 2), (0, 0), (0, -1)):
            self.assertFalse(Worst(pair, [], ["1"], {seat: 0}).shows(panel, "all"))

    def test_rounds_that_are_wrong(self):
        for turn in ([], ["1"], ["0", "1"], ["1", "0", "1"], ["0"], ["1", "1"], ["1", "0", "0"]):
            self.assertFalse(self.holds(turn=turn), turn)

    def test_an_empty_round_has_no_mean(self):
        panel, seat = Panel((0,), 2, (3,), {"1": ("1",)}), (("1", (0,)), 0)
        self.assertFalse(Worst((0, 1), [], [], {seat: 0}).shows(panel, "due"))
        self.assertFalse(Worst((0, 1), ["1"], [], {seat: 0}).shows(panel, "due"))

    def test_roads_that_are_wrong(self):
        for road in (["0"], ["1"], ["1", "1"], ["1", "0", "0"], ["1", "0", "1"]):
            self.assertFalse(self.holds(road=road), road)

    def test_a_round_with_a_lesser_mean(self):
        panel = Panel((0,), 1, (1,), BOTH)
        found = worst(panel, "due")
        self.assertEqual(found.mean, (1, 2))
        self.assertTrue(with_parts(found, road=[], turn=["1", "0"]).shows(panel, "due"))
        self.assertFalse(with_parts(found, road=[], turn=["0"]).shows(panel, "due"))
        self.assertFalse(with_parts(found, road=[], turn=["0", "1", "0"]).shows(panel, "due"))
        self.assertFalse(with_parts(found, mean=(0, 1), road=[], turn=["0"]).shows(panel, "due"))
        self.assertFalse(with_parts(found, mean=(1, 3), road=[], turn=["0", "1", "0"]).shows(panel, "due"))

    def test_after_the_round_the_memory_is_the_same(self):
        # After one picture, only the memory is another one.
        panel = Panel((0, 1), 2, (3, 3), {"01": ("01",)})
        found = worst(panel, "turn")
        self.assertEqual(found.mean, (3, 1))
        self.assertTrue(with_parts(found, turn=["01", "01"]).shows(panel, "turn"))
        self.assertFalse(with_parts(found, turn=["01"]).shows(panel, "turn"))

    def test_heights_that_are_too_great_or_too_small(self):
        for seat in HEIGHTS:
            for way in (-1, 1):
                self.assertFalse(self.holds(heights={**HEIGHTS, seat: HEIGHTS[seat] + way}))

    def test_seats_that_are_missing(self):
        for heights in ({}, {ZERO: 0}, {ONE: 1}):
            self.assertFalse(self.holds(heights=heights))
        other = {(("1", (0,)), 0): 0, (("0", (1,)), 0): 1}
        self.assertFalse(self.holds(heights=other))
        self.assertTrue(self.holds(heights={**other, **HEIGHTS}))

    def test_evidence_for_another_panel_or_rule(self):
        self.assertTrue(self.found.shows(self.panel, "all"))
        for rule in ("early", "turn"):
            self.assertFalse(self.found.shows(self.panel, rule))
        for panel in (Panel((0,), 1, (2,), FLIP), Panel((0,), 2, (1,), FLIP), example()):
            self.assertFalse(self.found.shows(panel, "due"))
        for rule in RULES:
            found = worst(example(), rule)
            self.assertFalse(found.shows(Panel((0, 1), 1, (2, 4), example().follows), rule))

    def test_evidence_that_is_changed_by_chance(self):
        source = random.Random(95)
        for panel in [*samples(), *random_panels(96, 15)]:
            for rule in RULES:
                found = worst(panel, rule)
                for _ in range(15):
                    changed = changed_by_chance(source, panel, found)
                    self.assertEqual(changed.shows(panel, rule), worst_shown(panel, rule, changed))

    def test_the_current_attributes_count(self):
        self.found.turn.append("1")
        self.assertFalse(self.found.shows(self.panel, "due"))
        self.found.turn = ["1", "0"]
        self.assertTrue(self.found.shows(self.panel, "due"))
        self.found.heights = {}
        self.assertFalse(self.found.shows(self.panel, "due"))


def changed_by_chance(source, panel, found):
    """Change or remove one item of one part."""
    part = source.choice(["road", "turn", "heights"])
    if part == "heights":
        heights = dict(found.heights)
        seat = source.choice(list(heights))
        heights[seat] += source.choice([-2, -1, 1, 2])
        if source.random() < 0.2:
            del heights[seat]
        return with_parts(found, heights=heights)
    pictures = list(parts_of(found)[part])
    if pictures and source.random() < 0.5:
        pictures[source.randrange(len(pictures))] = source.choice(list(panel.follows))
    elif pictures and source.random() < 0.5:
        pictures.pop(source.randrange(len(pictures)))
    else:
        pictures.append(source.choice(list(panel.follows)))
    return with_parts(found, **{part: pictures})


class ObjectTest(DocumentCase):
    def test_equality_is_that_of_all_attributes(self):
        found = Worst((1, 2), [], ["1", "0"], HEIGHTS)
        self.assertEqual(found, Worst((1, 2), [], ["1", "0"], backwards(HEIGHTS)))
        self.assertIs(found == with_parts(found), True)
        for part, value in {"mean": (1, 1), "road": ["1"], "turn": ["1"], "heights": {ZERO: 0}}.items():
            self.assertNotEqual(found, with_parts(found, **{part: value}))
        self.assertEqual(worst(example(), "turn"), worst(example(), "turn"))
        self.assertNotEqual(worst(example(), "turn"), worst(example(), "early"))

    def test_what_is_passed_is_neither_kept_nor_changed(self):
        road, turn, heights = ["1", "0"], ["1", "0"], dict(HEIGHTS)
        found = Worst((1, 2), road, turn, heights)
        self.assertTrue(found.shows(small(), "due"))
        self.assertEqual((road, turn, heights), (["1", "0"], ["1", "0"], HEIGHTS))
        for items in (road, turn, heights):
            items.clear()
        self.assertEqual(parts_of(found), {"mean": (1, 2), "road": ["1", "0"], "turn": ["1", "0"], "heights": HEIGHTS})

    def test_what_is_returned_is_new(self):
        panel = example()
        for rule in RULES:
            found = worst(panel, rule)
            for items in (found.road, found.turn, found.heights):
                items.clear()
            self.assertFalse(found.shows(panel, rule))
            self.assertTrue(worst(panel, rule).shows(panel, rule))
        self.assertEqual(panel, example())

    def test_errors_in_order(self):
        for function in (worst, worst_mean, Worst((0, 0), [], [], {}).shows):
            for rule in ("due", None, "Due"):
                self.panel_refused(function, rule)
            for rule in NO_RULES:
                with self.assertRaises(BadRule):
                    function(example(), rule)

    def test_names(self):
        self.assertEqual(worst(rule="due", panel=small()), worst(small(), "due"))
        self.assertEqual(worst_mean(rule="due", panel=small()), (1, 2))
        found = Worst(heights=HEIGHTS, turn=["1", "0"], road=[], mean=(1, 2))
        self.assertTrue(found.shows(rule="due", panel=small()))


if __name__ == "__main__":
    unittest.main()
