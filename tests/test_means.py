"""Tests of inkghost.means: point 5 of the document."""

import random
import unittest
from fractions import Fraction

from inkghost import means
from inkghost.means import Mean, least_mean, mean
from inkghost.panels import Panel
from inkghost.states import start
from plain import best_mean_by_all_drivers, best_mean_by_all_opponents, mean_shown
from samples import BOTH, FLIP, all_sets, all_states, example, led_to, must_flash, random_panels, samples
from wrong import DocumentCase

EXAMPLE = """
>>> from inkghost.means import Mean, least_mean, mean
>>> from inkghost.panels import Panel
>>> panel = Panel((0,), 1, (1,), {'0': ('0', '1'), '1': ('0', '1')})
>>> first, more = {(('0', (0,)), '0'): (), (('0', (0,)), '1'): (), (('1', (1,)), '0'): (0,)}, {(('1', (1,)), '1'): (), (('0', (1,)), '0'): (), (('0', (1,)), '1'): (0,)}
>>> high, pictures = {('0', (0,)): 0, ('1', (1,)): 1}, {('0', (0,)): '1', ('1', (1,)): '0', ('1', (0,)): '0', ('0', (1,)): '1'}
>>> found = Mean((1, 2), {**first, **more}, high, pictures, {('0', (0,)): 0, ('1', (1,)): 1, ('1', (0,)): 0, ('0', (1,)): 1})
>>> [least_mean(panel), mean(panel).shows(panel), found.shows(panel), least_mean(Panel((0, 0), 2, (3,), {'00': ('01',), '01': ('11',), '11': ('00',)}))]
[(1, 2), True, True, (3, 4)]
"""

ZERO, ONE = ("0", (0,)), ("1", (1,))
GHOST, LIGHT = ("0", (1,)), ("1", (0,))
ANSWERS = {(ZERO, "0"): (), (ZERO, "1"): (), (ONE, "0"): (0,), (ONE, "1"): ()}
HIGH = {ZERO: 0, ONE: 1}
PICTURES = {ZERO: "1", ONE: "0", LIGHT: "0", GHOST: "1"}
LOW = {ZERO: 0, ONE: 1, LIGHT: 0, GHOST: 1}


def small():
    return Panel((0,), 1, (1,), dict(BOTH))


def backwards(items):
    return dict(reversed(list(items.items())))


def parts_of(found):
    return {"mean": found.mean, "answers": found.answers, "high": found.high, "pictures": found.pictures,
            "low": found.low}


def with_parts(found, **parts):
    return Mean(**{**parts_of(found), **parts})


class RightMeanTest(DocumentCase):
    def test_the_example_of_the_interface(self):
        self.example_holds(EXAMPLE, 7)

    def test_means_that_are_known(self):
        self.assertEqual(least_mean(small()), (1, 2))
        self.assertEqual(least_mean(example()), (5, 2))
        for bound in (1, 2, 3, 4):
            for cost in (1, 2, 5):
                expected = Fraction(cost, bound + 1)
                self.assertEqual(least_mean(Panel((0,), bound, (cost,), FLIP)),
                                 (expected.numerator, expected.denominator))
        # Both cells change at each update, and one bank is cheaper than two.
        opposite = {"01": ("10",), "10": ("01",)}
        self.assertEqual(least_mean(Panel((0, 0), 1, (1,), opposite)), (1, 2))
        self.assertEqual(least_mean(Panel((0, 1), 1, (1, 5), opposite)), (3, 1))

    def test_a_common_divisor_is_taken_out(self):
        self.assertEqual(least_mean(Panel((0,), 3, (2,), FLIP)), (1, 2))
        self.assertEqual(least_mean(Panel((0,), 1, (4,), FLIP)), (2, 1))

    def test_a_panel_with_one_picture_that_follows_itself(self):
        for panel in (Panel((0,), 2, (3,), {"1": ("1",)}), Panel((1, 0, 2), 2, (3, 1, 5), {"010": ("010",)})):
            found = mean(panel)
            self.assertEqual(found.mean, (0, 1))
            self.assertTrue(found.shows(panel))
            self.assertTrue(mean_shown(panel, found))

    def test_as_all_drivers_and_all_opponents_have_it(self):
        panels = [Panel((0,), bound, (cost,), follows) for bound in (1, 2) for cost in (1, 3)
                  for follows in (BOTH, FLIP, {"0": ("0", "1"), "1": ("0",)}, {"0": ("1",), "1": ("0", "1")})]
        panels.append(Panel((0, 1), 1, (2, 1), {"00": ("01",), "01": ("00",)}))
        for panel in panels:
            self.assertEqual(least_mean(panel), best_mean_by_all_opponents(panel))
            self.assertEqual(least_mean(panel), best_mean_by_all_drivers(panel))

    def test_the_heights_of_many_panels_show_it(self):
        for panel in [*samples(), *random_panels(5, 90)]:
            found = mean(panel)
            self.assertTrue(mean_shown(panel, found))
            self.assertIs(found.shows(panel), True)
            self.assertEqual(least_mean(panel), found.mean)

    def test_a_panel_whose_mean_is_late_to_see(self):
        panel = Panel((0, 1, 0), 2, (4, 5), {"011": ("100", "110"), "100": ("111",), "101": ("011",),
                                             "110": ("011", "101"), "111": ("110",)})
        self.assertEqual(least_mean(panel), (65, 27))
        self.assertTrue(mean_shown(panel, mean(panel)))

    def test_the_kinds_of_the_attributes(self):
        for panel in samples():
            found = mean(panel)
            self.assertIsInstance(found, Mean)
            self.assertEqual([type(part) for part in parts_of(found).values()], [tuple, dict, dict, dict, dict])
            self.assertTrue(all(type(number) is int for number in
                                [*found.mean, *found.high.values(), *found.low.values()]))
            states = all_states(panel)
            for (state, picture), banks in found.answers.items():
                self.assertIn(state, states)
                self.assertIn(picture, panel.follows)
                self.assertIn(banks, all_sets(panel))
            for state in [*found.high, *found.low, *found.pictures]:
                self.assertIn(state, states)


class ShowsTest(DocumentCase):
    def setUp(self):
        self.panel = small()
        self.found = Mean((1, 2), ANSWERS, HIGH, PICTURES, LOW)

    def test_right_evidence(self):
        self.assertIs(self.found.shows(self.panel), True)
        self.assertTrue(mean_shown(self.panel, self.found))

    def test_dicts_in_any_order(self):
        for panel in samples():
            found = mean(panel)
            self.assertTrue(Mean(found.mean, backwards(found.answers), backwards(found.high),
                                 backwards(found.pictures), backwards(found.low)).shows(panel))

    def test_other_pairs_and_states_do_not_matter(self):
        answers = {**ANSWERS, (GHOST, "1"): (), (LIGHT, "0"): (0,)}
        self.assertTrue(with_parts(self.found, answers=answers).shows(self.panel))
        # From the beginning on, the only cell of this panel never has a ghost.
        panel = Panel((0,), 1, (1,), {"1": ("1",)})
        found = Mean((0, 1), {(LIGHT, "1"): (), (ONE, "1"): (0,)}, {LIGHT: 0}, {LIGHT: "1", ONE: "1"}, {LIGHT: 0})
        self.assertTrue(found.shows(panel))
        found = Mean((0, 1), {(LIGHT, "1"): ()}, {LIGHT: 0}, {LIGHT: "1"}, {LIGHT: 0, ONE: 0})
        self.assertFalse(found.shows(panel))
        # The opponent needs no more than two pictures here, and other states may have any picture.
        panel = example()
        low = {(picture, (one, two)): 2 * one + 3 * two for picture in ("00", "11") for one in (0, 1) for two in (0, 1)}
        pictures = {state: "11" if state[0] == "00" else "00" for state in low}
        found = with_parts(mean(panel), pictures={**pictures, ("01", (0, 0)): "01"}, low=low)
        self.assertTrue(found.shows(panel))
        self.assertFalse(with_parts(found, low={**low, ("01", (0, 0)): -100}).shows(panel))

    def test_all_heights_may_be_moved(self):
        for panel in samples():
            found = mean(panel)
            for way in (-1000, -1, 1, 10 ** 30):
                high = {state: height + way for state, height in found.high.items()}
                low = {state: height - way for state, height in found.low.items()}
                self.assertTrue(with_parts(found, high=high, low=low).shows(panel))

    def test_means_that_are_not_the_least_one(self):
        for pair in ((2, 4), (-1, -2), (1, -2), (-1, 2), (0, 1), (1, 1), (1, 3), (2, 3), (0, 0), (1, 0), (0, 2),
                     (2, 1), (10 ** 20, 2 * 10 ** 20 + 1)):
            self.assertIs(with_parts(self.found, mean=pair).shows(self.panel), False, pair)

    def test_zero_has_one_form(self):
        panel = Panel((0,), 2, (3,), {"1": ("1",)})
        found = mean(panel)
        for pair in ((0, 2), (0, 3), (0, 0), (0, -1)):
            self.assertFalse(with_parts(found, mean=pair).shows(panel))

    def test_a_common_divisor_with_heights_that_fit(self):
        high = {state: 3 * height for state, height in HIGH.items()}
        low = {state: 3 * height for state, height in LOW.items()}
        self.assertFalse(Mean((3, 6), ANSWERS, high, PICTURES, low).shows(self.panel))
        self.assertFalse(Mean((-1, -2), ANSWERS, high, PICTURES, low).shows(self.panel))

    def test_a_greater_mean_has_right_high_only_and_a_smaller_one_right_low_only(self):
        every = {(state, picture): (0,) for state in LOW for picture in "01"}
        level = {state: 0 for state in LOW}
        self.assertFalse(Mean((1, 1), every, level, PICTURES, level).shows(self.panel))
        self.assertFalse(Mean((0, 1), every, level, PICTURES, level).shows(self.panel))

    def test_heights_that_are_too_great_or_too_small(self):
        for part, heights in (("high", HIGH), ("low", LOW)):
            for state in heights:
                for way in (-2, -1, 1, 2):
                    changed = with_parts(self.found, **{part: {**heights, state: heights[state] + way}})
                    self.assertEqual(changed.shows(self.panel), mean_shown(self.panel, changed))
        self.assertFalse(with_parts(self.found, high={ZERO: 0, ONE: 2}).shows(self.panel))
        self.assertFalse(with_parts(self.found, high={ZERO: 0, ONE: 0}).shows(self.panel))
        self.assertFalse(with_parts(self.found, low={**LOW, ONE: 0}).shows(self.panel))
        self.assertFalse(with_parts(self.found, low={**LOW, ONE: 2}).shows(self.panel))

    def test_states_that_are_missing(self):
        self.assertFalse(with_parts(self.found, high={ZERO: 0}).shows(self.panel))
        self.assertFalse(with_parts(self.found, high={ONE: 1}).shows(self.panel))
        self.assertFalse(with_parts(self.found, high={}).shows(self.panel))
        for state in LOW:
            low = {other: LOW[other] for other in LOW if other != state}
            self.assertFalse(with_parts(self.found, low=low).shows(self.panel))
            pictures = {other: PICTURES[other] for other in LOW if other != state}
            self.assertFalse(with_parts(self.found, pictures=pictures).shows(self.panel))
        self.assertFalse(with_parts(self.found, low={}).shows(self.panel))

    def test_the_beginning_is_missing_from_dicts_that_hold_otherwise(self):
        panel = Panel((0,), 1, (1,), FLIP)
        found = mean(panel)
        # At picture 1 without a ghost, this driver flashes at every second update, and comes to other states only.
        high, answers = {LIGHT: 0, GHOST: 1}, {(LIGHT, "0"): (), (GHOST, "1"): (0,)}
        self.assertFalse(with_parts(found, answers=answers, high=high).shows(panel))
        right = with_parts(found, answers={**answers, (ZERO, "1"): (0,)}, high={**high, ZERO: 1})
        self.assertTrue(right.shows(panel))
        panel = Panel((0, 0), 1, (1,), {"00": ("01",), "01": ("00", "10"), "10": ("01",)})
        part = mean(Panel((0, 0), 1, (1,), {"01": ("10",), "10": ("01",)}))
        found = mean(panel)
        self.assertEqual(found.mean, part.mean)
        # These pictures never lead back to the first one.
        self.assertFalse(with_parts(found, pictures=part.pictures, low=part.low).shows(panel))
        first = start(panel)
        least = min(part.low.values()) - 10
        right = with_parts(found, pictures={**part.pictures, first: "01", ("01", (0, 1)): "10"},
                           low={**part.low, first: least, ("01", (0, 1)): least + 1})
        self.assertTrue(right.shows(panel))

    def test_answers_that_are_missing_or_cannot_be_given(self):
        for pair in ANSWERS:
            answers = {other: ANSWERS[other] for other in ANSWERS if other != pair}
            self.assertFalse(with_parts(self.found, answers=answers).shows(self.panel))
        self.assertFalse(with_parts(self.found, answers={**ANSWERS, (ONE, "0"): ()}).shows(self.panel))
        self.assertFalse(with_parts(self.found, answers={}).shows(self.panel))

    def test_an_answer_that_cannot_be_given_although_it_leads_to_a_state_in_the_dict(self):
        for panel in samples():
            found = mean(panel)
            for state in found.high:
                for picture in panel.follows[state[0]]:
                    for banks in all_sets(panel):
                        changed = with_parts(found, answers={**found.answers, (state, picture): banks})
                        if not must_flash(panel, state, picture) <= set(banks):
                            self.assertFalse(changed.shows(panel))
                        elif led_to(panel, state, picture, banks) not in found.high:
                            self.assertFalse(changed.shows(panel))

    def test_a_picture_that_cannot_follow(self):
        panel = example()
        found = mean(panel)
        for state in found.low:
            for picture in panel.follows:
                if picture not in panel.follows[state[0]]:
                    self.assertFalse(with_parts(found, pictures={**found.pictures, state: picture}).shows(panel))

    def test_evidence_for_another_panel(self):
        found = mean(Panel((0, 1), 1, (2, 3), {"00": ("11",), "11": ("00", "01"), "01": ("00",)}))
        self.assertTrue(found.shows(example()))
        self.assertFalse(found.shows(Panel((0, 1), 1, (2, 2), example().follows)))
        self.assertFalse(found.shows(Panel((0, 1), 2, (2, 3), example().follows)))
        self.assertFalse(found.shows(Panel((0, 0), 1, (2,), example().follows)))
        self.assertFalse(self.found.shows(Panel((0,), 1, (2,), BOTH)))
        self.assertFalse(self.found.shows(Panel((0,), 2, (1,), BOTH)))
        self.assertFalse(self.found.shows(Panel((0,), 1, (1,), {"1": ("1",)})))

    def test_evidence_that_is_changed_by_chance(self):
        source = random.Random(55)
        for panel in [*samples(), *random_panels(56, 12)]:
            found = mean(panel)
            told = {True: 0, False: 0}
            for _ in range(60):
                changed = changed_by_chance(source, panel, found)
                self.assertEqual(changed.shows(panel), mean_shown(panel, changed))
                told[changed.shows(panel)] += 1
            self.assertGreater(told[False], 0)

    def test_the_current_attributes_count(self):
        self.found.mean = (1, 3)
        self.assertFalse(self.found.shows(self.panel))
        self.found.mean = (1, 2)
        self.assertTrue(self.found.shows(self.panel))
        self.found.high[ONE] = 2
        self.assertFalse(self.found.shows(self.panel))
        self.found.high = dict(HIGH)
        self.assertTrue(self.found.shows(self.panel))
        del self.found.pictures[GHOST]
        self.assertFalse(self.found.shows(self.panel))

    def test_shows_changes_nothing(self):
        self.found.shows(self.panel)
        self.assertEqual(self.found, Mean((1, 2), ANSWERS, HIGH, PICTURES, LOW))


def changed_by_chance(source, panel, found):
    """Change or remove one item of one part."""
    part = source.choice(["answers", "high", "pictures", "low"])
    items = dict(parts_of(found)[part])
    key = source.choice(list(items))
    if source.random() < 0.2:
        del items[key]
    elif part == "answers":
        items[key] = source.choice(all_sets(panel))
    elif part == "pictures":
        items[key] = source.choice(list(panel.follows))
    else:
        items[key] += source.choice([-3, -1, 1, 2])
    return with_parts(found, **{part: items})


class ObjectTest(DocumentCase):
    def test_equality_is_that_of_all_attributes(self):
        found = Mean((1, 2), ANSWERS, HIGH, PICTURES, LOW)
        self.assertEqual(found, Mean((1, 2), backwards(ANSWERS), backwards(HIGH), backwards(PICTURES), backwards(LOW)))
        others = {"mean": (1, 3), "answers": {**ANSWERS, (ZERO, "0"): (0,)}, "high": {ZERO: 0},
                  "pictures": {**PICTURES, ZERO: "0"}, "low": {**LOW, ZERO: 1}}
        for part, value in others.items():
            self.assertNotEqual(found, with_parts(found, **{part: value}))
        self.assertIs(found == with_parts(found), True)
        self.assertEqual(mean(example()), mean(example()))
        self.assertNotEqual(mean(example()), mean(small()))

    def test_attributes_are_what_was_passed(self):
        found = Mean(low=LOW, pictures=PICTURES, high=HIGH, answers=ANSWERS, mean=(1, 2))
        self.assertEqual(parts_of(found), {"mean": (1, 2), "answers": ANSWERS, "high": HIGH, "pictures": PICTURES,
                                           "low": LOW})

    def test_dicts_that_are_passed_are_neither_kept_nor_changed(self):
        passed = [dict(ANSWERS), dict(HIGH), dict(PICTURES), dict(LOW)]
        found = Mean((1, 2), *passed)
        self.assertTrue(found.shows(small()))
        self.assertEqual(passed, [ANSWERS, HIGH, PICTURES, LOW])
        for items in passed:
            items.clear()
        self.assertEqual(found, Mean((1, 2), ANSWERS, HIGH, PICTURES, LOW))
        for items in (found.answers, found.high, found.pictures, found.low):
            items.clear()
        self.assertEqual(Mean((1, 2), ANSWERS, HIGH, PICTURES, LOW).answers, ANSWERS)

    def test_what_is_returned_is_new(self):
        panel = example()
        found = mean(panel)
        for items in (found.answers, found.high, found.pictures, found.low):
            items.clear()
        self.assertFalse(found.shows(panel))
        self.assertTrue(mean(panel).shows(panel))
        self.assertEqual(panel, example())

    def test_not_a_panel(self):
        self.panel_refused(mean)
        self.panel_refused(least_mean)
        self.panel_refused(Mean((1, 2), ANSWERS, HIGH, PICTURES, LOW).shows)
        self.panel_refused(Mean((0, 0), {}, {}, {}, {}).shows)

    def test_names(self):
        self.names_are_defined_in(means, "mean", "least_mean", "Mean")
        self.assertEqual(mean(panel=small()), mean(small()))
        self.assertEqual(least_mean(panel=small()), (1, 2))
        self.assertTrue(mean(small()).shows(panel=small()))


if __name__ == "__main__":
    unittest.main()
