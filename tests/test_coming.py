"""Tests of inkghost.coming: point 6 of the document."""

import random
import unittest

from inkghost import coming as module
from inkghost.coming import Coming, coming, coming_cost
from inkghost.errors import BadCount
from inkghost.panels import Panel
from inkghost.states import start
from plain import caps_shown, coming_costs, floors_shown
from samples import BOTH, FLIP, STRANGE, all_sets, all_states, example, must_flash, random_panels, samples
from wrong import NO_STATES, DocumentCase

EXAMPLE = """
>>> from inkghost.coming import coming, coming_cost
>>> from inkghost.needs import can_keep, keeping, needed
>>> from inkghost.panels import Panel
>>> from inkghost.states import start
>>> panel = Panel((0, 1), 1, (2, 3), {'00': ('11',), '11': ('00', '01'), '01': ('00',)})
>>> costs = [coming_cost(panel, start(panel), 1), coming_cost(panel, start(panel), 2), coming_cost(panel, start(panel), 4)]
>>> [costs, coming(panel, start(panel), 3).shows(panel, start(panel), 3), needed(panel), can_keep(panel, (1,)), keeping(panel, (1,)).shows(panel, (1,)), needed(Panel((0, 1), 1, (1, 1), {'00': ('01',), '01': ('00',)}))]
[[0, 5, 10], True, (0, 1), False, True, (1,)]
"""

NO_COUNTS = [*STRANGE, -1, 7, 8, -10 ** 30, 10 ** 30, "", "3", (), (3,), {}, "6"]

ZERO, ONE = ("0", (0,)), ("1", (1,))
GHOST, LIGHT = ("0", (1,)), ("1", (0,))
# Two updates of a cell that changes each time, and may change once without a flash.
CAPS = {(2, ZERO): 5, (1, ONE): 5, (0, ZERO): 0}
ANSWERS = {(2, ZERO, "1"): (), (1, ONE, "0"): (0,)}
FLOORS = {(2, ZERO): 5, (1, ONE): 5}
PICTURES = {(2, ZERO): "1", (1, ONE): "0"}


def small():
    return Panel((0,), 1, (5,), FLIP)


def parts_of(found):
    return {"cost": found.cost, "caps": found.caps, "answers": found.answers, "floors": found.floors,
            "pictures": found.pictures}


def with_parts(found, **parts):
    return Coming(**{**parts_of(found), **parts})


def backwards(items):
    return dict(reversed(list(items.items())))


def without(items, key):
    return {other: items[other] for other in items if other != key}


def is_right(panel, state, count, found):
    return caps_shown(panel, state, count, found) and floors_shown(panel, state, count, found)


class RightCostTest(DocumentCase):
    def test_the_example_of_the_interface(self):
        self.example_holds(EXAMPLE, 7)

    def test_costs_that_are_known(self):
        self.assertEqual([coming_cost(small(), ZERO, count) for count in range(7)], [0, 0, 5, 5, 10, 10, 15])
        self.assertEqual([coming_cost(small(), ONE, count) for count in range(7)], [0, 5, 5, 10, 10, 15, 15])
        # Two cheap banks cost more than one dear one, if all cells change.
        follows = {"00": ("11",), "11": ("00",)}
        self.assertEqual(coming_cost(Panel((0, 1), 1, (3, 4), follows), ("11", (1, 1)), 1), 7)
        self.assertEqual(coming_cost(Panel((0, 0), 1, (5,), follows), ("11", (1, 1)), 1), 5)

    def test_the_costs_of_many_panels(self):
        for panel in random_panels(61, 60):
            least = coming_costs(panel)
            self.assertEqual(coming_cost(panel, start(panel), 6), least(start(panel), 6))

    def test_no_picture_and_six_pictures(self):
        for panel in samples():
            least = coming_costs(panel)
            for state in all_states(panel)[::12]:
                none, most = coming(panel, state, 0), coming(panel, state, 6)
                self.assertEqual((none.cost, most.cost), (0, least(state, 6)))
                self.assertTrue(none.shows(panel, state, 0))
                self.assertTrue(is_right(panel, state, 0, none))
                self.assertTrue(is_right(panel, state, 6, most))

    def test_all_numbers_and_many_states(self):
        for panel in [*samples(), *random_panels(62, 12)]:
            least = coming_costs(panel)
            for state in all_states(panel)[::14]:
                for count in range(7):
                    found = coming(panel, state, count)
                    self.assertEqual(found.cost, least(state, count))
                    self.assertEqual(coming_cost(panel, state, count), found.cost)
                    self.assertTrue(is_right(panel, state, count, found))
                    self.assertIs(found.shows(panel, state, count), True)

    def test_states_that_cannot_come_about(self):
        panel = Panel((0, 1), 2, (1, 4), {"00": ("01",), "01": ("00",)})
        state = ("01", (2, 1))
        found = coming(panel, state, 5)
        self.assertEqual(found.cost, 8)
        self.assertTrue(is_right(panel, state, 5, found))
        self.assertTrue(found.shows(panel, state, 5))

    def test_a_panel_with_one_picture_that_follows_itself(self):
        panel = Panel((0,), 2, (3,), {"1": ("1",)})
        for ghost in range(3):
            for count in range(7):
                found = coming(panel, ("1", (ghost,)), count)
                self.assertEqual(found.cost, 0)
                self.assertTrue(found.shows(panel, ("1", (ghost,)), count))

    def test_the_kinds_of_the_attributes(self):
        for panel in samples():
            found = coming(panel, start(panel), 3)
            self.assertIsInstance(found, Coming)
            self.assertEqual([type(part) for part in parts_of(found).values()], [int, dict, dict, dict, dict])
            states = all_states(panel)
            for left, state in [*found.caps, *found.floors, *found.pictures]:
                self.assertIn(left, range(4))
                self.assertIn(state, states)
            for (left, state, picture), banks in found.answers.items():
                self.assertIn(left, range(4))
                self.assertIn(state, states)
                self.assertIn(picture, panel.follows)
                self.assertIn(banks, all_sets(panel))
            self.assertTrue(all(type(number) is int for number in [*found.caps.values(), *found.floors.values()]))


class ShowsTest(DocumentCase):
    def setUp(self):
        self.panel = small()
        self.found = Coming(5, CAPS, ANSWERS, FLOORS, PICTURES)

    def holds(self, **parts):
        found = with_parts(self.found, **parts)
        self.assertEqual(found.shows(self.panel, ZERO, 2), is_right(self.panel, ZERO, 2, found))
        return found.shows(self.panel, ZERO, 2)

    def test_right_evidence(self):
        self.assertIs(self.holds(), True)

    def test_dicts_in_any_order_and_more_items_that_do_not_matter(self):
        self.assertTrue(self.holds(caps=backwards(CAPS), answers=backwards(ANSWERS), floors=backwards(FLOORS),
                                   pictures=backwards(PICTURES)))
        self.assertTrue(self.holds(answers={**ANSWERS, (1, ONE, "1"): (), (0, ONE, "0"): (), (2, GHOST, "1"): ()}))
        self.assertTrue(self.holds(pictures={**PICTURES, (0, ZERO): "1", (2, ONE): "1", (1, ZERO): "0"}))
        self.assertTrue(self.holds(caps={**CAPS, (0, GHOST): 0, (0, LIGHT): 7}))

    def test_floors_of_zero_and_less_ask_for_nothing(self):
        more = {(0, ZERO): 0, (0, ONE): -1, (1, ZERO): 0, (2, ONE): -5, (1, LIGHT): -10 ** 30}
        self.assertTrue(self.holds(floors={**FLOORS, **more}))
        self.assertFalse(self.holds(floors={**FLOORS, (0, ZERO): 1}, pictures={**PICTURES, (0, ZERO): "1"}))
        self.assertFalse(self.holds(floors={**FLOORS, (1, ZERO): 1}, pictures={**PICTURES, (1, ZERO): "1"}))
        self.assertTrue(Coming(0, {(0, ZERO): 0}, {}, {}, {}).shows(self.panel, ZERO, 0))
        self.assertTrue(Coming(0, {(0, ZERO): 0}, {}, {(0, ZERO): 0}, {}).shows(self.panel, ZERO, 0))
        self.assertFalse(Coming(0, {(0, ZERO): 0}, {}, {(0, ZERO): 1}, {}).shows(self.panel, ZERO, 0))
        self.assertFalse(Coming(0, {(0, ZERO): 0}, {}, {(0, ONE): 1}, {(0, ONE): "0"}).shows(self.panel, ZERO, 0))

    def test_a_floor_is_needed_only_for_a_cost(self):
        caps, answers = {(1, ZERO): 0, (0, ONE): 0}, {(1, ZERO, "1"): ()}
        self.assertTrue(Coming(0, caps, answers, {}, {}).shows(self.panel, ZERO, 1))
        for cost in (1, 2, 5):
            panel, spots = Panel((0,), 1, (cost,), FLIP), {(1, ONE): cost, (0, ZERO): 0}
            answers, pictures = {(1, ONE, "0"): (0,)}, {(1, ONE): "0"}
            self.assertTrue(Coming(cost, spots, answers, {(1, ONE): cost}, pictures).shows(panel, ONE, 1))
            self.assertFalse(Coming(cost, spots, answers, {(1, ONE): cost - 1}, pictures).shows(panel, ONE, 1))
            self.assertFalse(Coming(cost, spots, answers, {}, pictures).shows(panel, ONE, 1))

    def test_costs_that_are_too_great_or_too_small(self):
        for cost in (-5, 0, 4, 6, 10, 10 ** 30):
            self.assertFalse(self.holds(cost=cost), cost)
        self.assertFalse(Coming(-1, {(0, ZERO): 0}, {}, {}, {}).shows(self.panel, ZERO, 0))
        self.assertFalse(Coming(-1, {(0, ZERO): -1}, {}, {}, {}).shows(self.panel, ZERO, 0))
        self.assertFalse(Coming(1, {(0, ZERO): 0}, {}, {(0, ZERO): 1}, {}).shows(self.panel, ZERO, 0))
        caps = {(2, ZERO): 6, (1, ONE): 6, (0, ZERO): 1}
        self.assertFalse(self.holds(cost=6, caps=caps))

    def test_caps_that_are_too_great_or_too_small(self):
        for spot in CAPS:
            for way in (-1, 1):
                self.assertFalse(self.holds(caps={**CAPS, spot: CAPS[spot] + way}), (spot, way))

    def test_all_caps_less_by_one(self):
        self.assertFalse(self.holds(caps={spot: cap - 1 for spot, cap in CAPS.items()}))
        self.assertFalse(self.holds(caps={spot: cap - 1 for spot, cap in CAPS.items()}, cost=4,
                                    floors={spot: floor - 1 for spot, floor in FLOORS.items()}))

    def test_floors_that_are_too_great_or_too_small(self):
        self.assertFalse(self.holds(floors={**FLOORS, (2, ZERO): 4}))
        self.assertFalse(self.holds(floors={**FLOORS, (2, ZERO): 6}))
        self.assertFalse(self.holds(floors={**FLOORS, (1, ONE): 4}))
        self.assertFalse(self.holds(floors={**FLOORS, (1, ONE): 6}))

    def test_more_spots_with_right_caps(self):
        self.assertTrue(self.holds(caps={**CAPS, (2, ONE): 10, (1, ZERO): 0, (0, ONE): 0},
                                   answers={**ANSWERS, (2, ONE, "0"): (0,), (1, ZERO, "1"): ()}))
        self.assertTrue(self.holds(caps={**CAPS, (1, LIGHT): 3, (0, GHOST): 2},
                                   answers={**ANSWERS, (1, LIGHT, "0"): ()}))

    def test_spots_that_are_missing(self):
        for spot in CAPS:
            self.assertFalse(self.holds(caps=without(CAPS, spot)))
        for spot in FLOORS:
            self.assertFalse(self.holds(floors=without(FLOORS, spot)))
            self.assertFalse(self.holds(pictures=without(PICTURES, spot)))
        for triple in ANSWERS:
            self.assertFalse(self.holds(answers=without(ANSWERS, triple)))
        self.assertFalse(self.holds(caps={}))
        self.assertFalse(self.holds(floors={}))

    def test_answers_that_cannot_be_given(self):
        self.assertFalse(self.holds(answers={**ANSWERS, (1, ONE, "0"): ()}))
        panel = example()
        found = coming(panel, start(panel), 3)
        for left, state, picture in found.answers:
            for banks in all_sets(panel):
                if not must_flash(panel, state, picture) <= set(banks):
                    changed = with_parts(found, answers={**found.answers, (left, state, picture): banks})
                    self.assertFalse(changed.shows(panel, start(panel), 3))

    def test_an_answer_for_another_number_of_pictures(self):
        panel, answers = small(), {(1, ZERO, "1"): (), (2, ONE, "0"): (0,)}
        self.assertFalse(Coming(5, CAPS, answers, FLOORS, PICTURES).shows(panel, ZERO, 2))

    def test_pictures_that_cannot_follow(self):
        self.assertFalse(self.holds(pictures={**PICTURES, (1, ONE): "1"}))
        self.assertFalse(self.holds(pictures={**PICTURES, (2, ZERO): "0"}))

    def test_evidence_for_something_else(self):
        self.assertFalse(self.found.shows(self.panel, ONE, 2))
        self.assertFalse(self.found.shows(self.panel, ZERO, 3))
        self.assertFalse(self.found.shows(Panel((0,), 1, (4,), FLIP), ZERO, 2))
        self.assertFalse(self.found.shows(Panel((0,), 2, (5,), FLIP), ZERO, 2))
        self.assertFalse(self.found.shows(Panel((0,), 1, (5,), BOTH), ZERO, 2))
        found = coming(example(), start(example()), 3)
        self.assertTrue(found.shows(example(), start(example()), 3))
        self.assertFalse(found.shows(example(), ("11", (1, 1)), 3))

    def test_the_beginning_of_the_panel_does_not_matter(self):
        found = Coming(5, without(CAPS, (2, ZERO)), ANSWERS, {(1, ONE): 5}, PICTURES)
        self.assertTrue(found.shows(self.panel, ONE, 1))

    def test_evidence_that_is_changed_by_chance(self):
        source = random.Random(65)
        for panel in [*samples(), *random_panels(66, 12)]:
            state, count = source.choice(all_states(panel)), source.randint(1, 4)
            found = coming(panel, state, count)
            for _ in range(30):
                changed = changed_by_chance(source, panel, found)
                self.assertEqual(changed.shows(panel, state, count), is_right(panel, state, count, changed))

    def test_the_current_attributes_count(self):
        self.found.cost = 4
        self.assertFalse(self.found.shows(self.panel, ZERO, 2))
        self.found.cost = 5
        self.found.caps[(1, ONE)] = 6
        self.assertFalse(self.found.shows(self.panel, ZERO, 2))
        self.found.caps = dict(CAPS)
        self.assertTrue(self.found.shows(self.panel, ZERO, 2))
        self.assertEqual(self.found, Coming(5, CAPS, ANSWERS, FLOORS, PICTURES))


def changed_by_chance(source, panel, found):
    """Change or remove one item of one part."""
    part = source.choice(["caps", "answers", "floors", "pictures"])
    items = dict(parts_of(found)[part])
    if not items:
        return found
    key = source.choice(list(items))
    if source.random() < 0.2:
        del items[key]
    elif part == "answers":
        items[key] = source.choice(all_sets(panel))
    elif part == "pictures":
        items[key] = source.choice(list(panel.follows))
    else:
        items[key] += source.choice([-1, 1])
    return with_parts(found, **{part: items})


class ObjectTest(DocumentCase):
    def test_equality_is_that_of_all_attributes(self):
        found = Coming(5, CAPS, ANSWERS, FLOORS, PICTURES)
        self.assertEqual(found, Coming(5, backwards(CAPS), backwards(ANSWERS), backwards(FLOORS), backwards(PICTURES)))
        self.assertIs(found == with_parts(found), True)
        others = {"cost": 4, "caps": {}, "answers": {**ANSWERS, (2, ZERO, "1"): (0,)},
                  "floors": {**FLOORS, (1, ONE): 4}, "pictures": {**PICTURES, (1, ONE): "1"}}
        for part, value in others.items():
            self.assertNotEqual(found, with_parts(found, **{part: value}))
        self.assertEqual(coming(small(), ZERO, 2), coming(small(), ZERO, 2))
        self.assertNotEqual(coming(small(), ZERO, 2), coming(small(), ZERO, 4))

    def test_dicts_that_are_passed_are_neither_kept_nor_changed(self):
        passed = [dict(CAPS), dict(ANSWERS), dict(FLOORS), dict(PICTURES)]
        found = Coming(5, *passed)
        self.assertTrue(found.shows(small(), ZERO, 2))
        self.assertEqual(passed, [CAPS, ANSWERS, FLOORS, PICTURES])
        for items in passed:
            items.clear()
        self.assertEqual(parts_of(found), {"cost": 5, "caps": CAPS, "answers": ANSWERS, "floors": FLOORS,
                                           "pictures": PICTURES})

    def test_what_is_returned_is_new(self):
        panel = example()
        found = coming(panel, start(panel), 4)
        found.caps[(4, start(panel))] = 99
        self.assertEqual(found.floors[(4, start(panel))], 10)
        for items in (found.caps, found.answers, found.floors, found.pictures):
            items.clear()
        self.assertTrue(coming(panel, start(panel), 4).shows(panel, start(panel), 4))
        self.assertEqual(panel, example())

    def test_errors_in_order(self):
        shows = Coming(0, {}, {}, {}, {}).shows
        for function in (coming, coming_cost, shows):
            for rest in ((("00", (0, 0)), 3), (None, 3), (("00", (0, 0)), 7), (None, None)):
                self.panel_refused(function, *rest)
            for count in (3, 7, True):
                self.state_refused(function, count)
            for count in NO_COUNTS:
                with self.assertRaises(BadCount):
                    function(example(), ("11", (1, 0)), count)

    def test_a_state_of_another_panel(self):
        self.assertIn(("00", (0, 2)), NO_STATES)
        self.assertEqual(coming_cost(Panel((0, 1), 2, (2, 3), example().follows), ("00", (0, 2)), 1), 3)

    def test_names(self):
        self.names_are_defined_in(module, "coming", "coming_cost", "Coming")
        self.assertEqual(coming(count=2, state=ZERO, panel=small()), coming(small(), ZERO, 2))
        self.assertEqual(coming_cost(count=2, state=ZERO, panel=small()), 5)
        found = Coming(pictures=PICTURES, floors=FLOORS, answers=ANSWERS, caps=CAPS, cost=5)
        self.assertTrue(found.shows(count=2, state=ZERO, panel=small()))


if __name__ == "__main__":
    unittest.main()
