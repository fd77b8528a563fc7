"""Tests of the comparison of rules in inkghost.rules: point 10 of the document."""

import random
import unittest

from inkghost.errors import BadRule
from inkghost.panels import Panel
from inkghost.rules import RULES, Alike, Apart, are_alike, compare
from plain import alike_shown, all_roads, first_difference, first_state, sets_on
from samples import FLIP, all_states, example, random_panels, samples
from test_rules import NO_RULES
from wrong import DocumentCase

ZERO, ONE = (("0", (0,)), 0, 0), (("1", (1,)), 0, 0)


def small():
    return Panel((0,), 1, (1,), FLIP)


def pairs():
    return [(one, other) for one in RULES for other in RULES]


def is_apart(panel, one, other, road):
    """Tell whether rules flash different banks at the end of a road, and not before."""
    if not road or road not in all_roads(panel, len(road)):
        return False
    sets, others = sets_on(panel, one, road), sets_on(panel, other, road)
    return sets[:-1] == others[:-1] and sets[-1] != others[-1]


class CompareTest(DocumentCase):
    def test_the_first_list_that_is_known(self):
        self.assertEqual(compare(example(), "due", "all"), Apart(["11", "01"]))
        self.assertEqual(compare(example(), "all", "due"), Apart(["11", "01"]))
        self.assertEqual(compare(example(), "due", "early"), Apart(["11"]))
        self.assertEqual(compare(small(), "due", "turn"), Apart(["1"]))
        self.assertEqual(compare(Panel((0,), 3, (1,), FLIP), "all", "early"), Apart(["1", "0", "1"]))

    def test_a_rule_is_like_itself(self):
        for panel in samples():
            for rule in RULES:
                self.assertIs(are_alike(panel, rule, rule), True)
                self.assertTrue(alike_shown(panel, rule, rule, compare(panel, rule, rule)))

    def test_with_one_bank_due_and_all_are_alike(self):
        for panel in samples():
            if len(panel.prices) == 1:
                self.assertTrue(are_alike(panel, "due", "all"))

    def test_different_rules_are_alike_for_a_panel_that_never_changes(self):
        panel = Panel((0, 1), 4, (1, 1), {"01": ("01",)})
        for one, other in pairs():
            self.assertIs(are_alike(panel, one, other), one == other or "turn" not in (one, other))

    def test_early_and_turn_can_be_alike(self):
        # With a bound of 1 and one cell that changes each time, both flash at each update.
        self.assertTrue(are_alike(small(), "early", "turn"))
        self.assertEqual(compare(small(), "early", "turn").triples, [(("1", (0,)), 0, 0), ZERO][::-1])

    def test_the_first_difference_of_many_panels(self):
        for panel in [*samples(), *random_panels(101, 60)]:
            for one, other in pairs():
                found = compare(panel, one, other)
                self.assertIs(are_alike(panel, one, other), isinstance(found, Alike))
                self.assertIs(found.shows(panel, one, other), True)
                if isinstance(found, Alike):
                    self.assertTrue(alike_shown(panel, one, other, found))
                elif len(found.pictures) <= 5:
                    self.assertEqual(first_difference(panel, one, other, 5), found.pictures)
                else:
                    self.assertIsNone(first_difference(panel, one, other, 5))
                    self.assertTrue(is_apart(panel, one, other, found.pictures))

    def test_shorter_lists_come_first_and_then_those_with_lesser_pictures(self):
        # Many lists of each length lead to a difference here.
        follows = {"00": ("00", "01", "10", "11"), "01": ("00", "11"), "10": ("00", "11"), "11": ("00", "01", "10")}
        for bound in (1, 2):
            panel = Panel((0, 1), bound, (1, 1), follows)
            for one, other in pairs():
                found = compare(panel, one, other)
                if one != other:
                    self.assertEqual(found.pictures, first_difference(panel, one, other, 5))
        self.assertEqual(compare(Panel((0, 1), 1, (1, 1), follows), "due", "all").pictures, ["01", "00"])
        self.assertEqual(compare(Panel((0, 1), 2, (1, 1), follows), "due", "early").pictures, ["01", "00"])

    def test_the_kinds_of_the_attributes(self):
        for panel in samples():
            for one, other in pairs():
                found = compare(panel, one, other)
                if isinstance(found, Alike):
                    self.assertIs(type(found.triples), list)
                    for state, first, second in found.triples:
                        self.assertIn(state, all_states(panel))
                        self.assertEqual((type(first), type(second)), (int, int))
                else:
                    self.assertEqual({type(part) for part in [*found.pictures]}, {str})
                    self.assertIs(type(found.pictures), list)


class AlikeTest(DocumentCase):
    def setUp(self):
        self.panel = small()

    def holds(self, triples, one="due", other="all"):
        found = Alike(triples)
        self.assertEqual(found.shows(self.panel, one, other), alike_shown(self.panel, one, other, found))
        return found.shows(self.panel, one, other)

    def test_right_evidence(self):
        self.assertIs(self.holds([ZERO, ONE]), True)
        self.assertTrue(self.holds([ONE, ZERO]))
        self.assertTrue(self.holds([ONE, ZERO, ONE]))
        self.assertTrue(self.holds([ZERO, ONE, (("1", (0,)), 0, 0), (("0", (1,)), 0, 0)]))

    def test_triples_that_are_missing(self):
        for triples in ([], [ZERO], [ONE], [ONE, (("0", (1,)), 0, 0)]):
            self.assertFalse(self.holds(triples), triples)

    def test_the_beginning_is_missing_from_a_list_that_holds_otherwise(self):
        other = [(("1", (0,)), 0, 0), (("0", (1,)), 0, 0)]
        self.assertFalse(self.holds(other))
        self.assertTrue(self.holds([*other, ZERO, ONE]))
        panel = Panel((0, 1), 1, (1, 1), {"01": ("01",)})
        self.assertFalse(Alike([(("01", (0, 0)), 1, 1), (("01", (0, 0)), 0, 0)][:1]).shows(panel, "turn", "turn"))
        self.assertTrue(Alike([(("01", (0, 0)), 1, 1), (("01", (0, 0)), 0, 0)]).shows(panel, "turn", "turn"))

    def test_different_banks(self):
        self.assertFalse(self.holds([ZERO, ONE], "due", "early"))
        self.assertFalse(self.holds([ZERO, ONE], "turn", "due"))
        self.assertFalse(self.holds([(state, 0, 0) for state in all_states(self.panel)], "early", "due"))
        panel = Panel((0, 1), 1, (1, 1), {"01": ("01",)})
        state = first_state(panel)
        triples = [(state, 0, 0), (state, 1, 1), (state, 0, 1), (state, 1, 0)]
        self.assertFalse(Alike(triples).shows(panel, "turn", "turn"))
        self.assertTrue(Alike(triples[:2]).shows(panel, "turn", "turn"))

    def test_alike_for_another_panel(self):
        found = compare(self.panel, "due", "all")
        self.assertFalse(found.shows(Panel((0,), 2, (1,), FLIP), "due", "all"))
        self.assertFalse(found.shows(example(), "due", "all"))

    def test_each_triple_of_many_panels_is_needed(self):
        source = random.Random(105)
        for panel in [*samples(), *random_panels(106, 15)]:
            for one, other in pairs():
                found = compare(panel, one, other)
                if isinstance(found, Alike):
                    at = source.randrange(len(found.triples))
                    changed = Alike(found.triples[:at] + found.triples[at + 1:])
                    self.assertFalse(changed.shows(panel, one, other))
                    self.assertFalse(alike_shown(panel, one, other, changed))


class ApartTest(DocumentCase):
    def test_right_evidence_need_not_be_the_first_list(self):
        panel = example()
        for road in (["11", "01"], ["11", "00", "11", "01"]):
            self.assertIs(Apart(road).shows(panel, "due", "all"), True, road)
            self.assertIs(Apart(road).shows(panel, "all", "due"), True, road)

    def test_wrong_evidence(self):
        panel = example()
        for road in ([], ["11"], ["11", "00"], ["11", "01", "00"], ["11", "01", "00", "11"], ["01"], ["11", "11"],
                     ["00", "11", "01"], ["11", "00", "00"], ["11", "01", "01"]):
            self.assertIs(Apart(road).shows(panel, "due", "all"), False, road)
            self.assertFalse(is_apart(panel, "due", "all", road))

    def test_an_empty_list(self):
        for one, other in pairs():
            self.assertFalse(Apart([]).shows(example(), one, other))

    def test_all_short_roads(self):
        for panel in [*samples(), *random_panels(107, 15)]:
            for one, other in pairs():
                for length in (1, 2, 3, 4):
                    for road in all_roads(panel, length)[:25]:
                        self.assertEqual(Apart(road).shows(panel, one, other), is_apart(panel, one, other, road))
                        wrong = [*road[:-1], min(panel.follows)]
                        self.assertEqual(Apart(wrong).shows(panel, one, other), is_apart(panel, one, other, wrong))

    def test_apart_for_other_rules_or_another_panel(self):
        self.assertFalse(Apart(["11", "01"]).shows(example(), "due", "due"))
        self.assertFalse(Apart(["11", "01"]).shows(Panel((0, 1), 2, (2, 3), example().follows), "due", "all"))
        self.assertFalse(Apart(["11", "01"]).shows(small(), "due", "all"))


class ObjectTest(DocumentCase):
    def test_equality(self):
        self.assertEqual(Alike([ZERO, ONE]), Alike([ZERO, ONE]))
        self.assertNotEqual(Alike([ZERO, ONE]), Alike([ZERO]))
        self.assertEqual(Apart(["11"]), Apart(["11"]))
        self.assertNotEqual(Apart(["11"]), Apart(["11", "01"]))
        self.assertEqual(compare(example(), "turn", "turn"), compare(example(), "turn", "turn"))

    def test_lists_that_are_passed_are_neither_kept_nor_changed(self):
        triples, pictures = [ZERO, ONE], ["11", "01"]
        alike, apart = Alike(triples), Apart(pictures)
        self.assertTrue(alike.shows(small(), "due", "all"))
        self.assertTrue(apart.shows(example(), "due", "all"))
        self.assertEqual((triples, pictures), ([ZERO, ONE], ["11", "01"]))
        triples.clear()
        pictures.clear()
        self.assertEqual((alike.triples, apart.pictures), ([ZERO, ONE], ["11", "01"]))

    def test_what_is_returned_is_new(self):
        panel = example()
        compare(panel, "due", "all").pictures.clear()
        compare(panel, "due", "due").triples.clear()
        self.assertEqual(compare(panel, "due", "all").pictures, ["11", "01"])
        self.assertTrue(compare(panel, "due", "due").shows(panel, "due", "due"))
        self.assertEqual(panel, example())

    def test_the_current_attributes_count(self):
        alike, apart = Alike([]), Apart([])
        alike.triples, apart.pictures = [ZERO, ONE], ["11", "01"]
        self.assertTrue(alike.shows(small(), "due", "all"))
        self.assertTrue(apart.shows(example(), "due", "all"))
        alike.triples.pop()
        apart.pictures.pop()
        self.assertFalse(alike.shows(small(), "due", "all"))
        self.assertFalse(apart.shows(example(), "due", "all"))

    def test_errors_in_order(self):
        for function in (compare, are_alike, Alike([]).shows, Apart([]).shows):
            for words in (("due", "all"), (None, "all"), ("due", None), (None, None)):
                self.panel_refused(function, *words)
            for rule in NO_RULES:
                for words in ((rule, "due"), ("due", rule), (rule, rule)):
                    with self.assertRaises(BadRule):
                        function(example(), *words)

    def test_names(self):
        self.assertEqual(compare(other="all", one="due", panel=example()), Apart(["11", "01"]))
        self.assertFalse(are_alike(other="all", one="due", panel=example()))
        self.assertTrue(Alike(triples=[ZERO, ONE]).shows(other="all", one="due", panel=small()))
        self.assertTrue(Apart(pictures=["11", "01"]).shows(other="all", one="due", panel=example()))


if __name__ == "__main__":
    unittest.main()
