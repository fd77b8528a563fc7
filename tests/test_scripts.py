"""Tests of inkghost.scripts: point 11 of the document."""

import random
import unittest

from inkghost import scripts as module
from inkghost.errors import BadScript, BadSets
from inkghost.panels import Panel
from inkghost.scripts import Plan, cost_with, least_cost, plan
from inkghost.states import start
from plain_steps import (all_ways, cost_of_sets, least_of_all_ways, next_state, plan_shown, random_script, random_sets,
                         sets_for)
from samples import BOTH, FLIP, STRANGE, THREE, Agreeable, all_sets, all_states, example, random_panels, samples
from wrong import NO_BANKS, NO_PICTURES, DocumentCase

EXAMPLE = """
>>> from inkghost.panels import Panel
>>> from inkghost.scripts import Plan, cost_with, least_cost, plan
>>> from inkghost.states import start
>>> panel = Panel((0, 1), 1, (2, 3), {'00': ('11',), '11': ('00', '01'), '01': ('00',)})
>>> script = ['11', 'rest', '01', '00', '11']
>>> sets = [(), (0, 1), (), (1,), (0,)]
>>> [least_cost(panel, start(panel), script), cost_with(panel, start(panel), script, sets), least_cost(panel, start(panel), ['11', '00', '11']), plan(panel, start(panel), script).shows(panel, start(panel), script)]
[5, 7, 5, True]
"""

# 11 is shown in the states with which these are used.
NO_SCRIPTS = [*[value for value in STRANGE if not isinstance(value, list)], 0, 1, "", "rest", "00", {}, {"00": 0}, [], (), ["rest"] * 9, ("rest",) * 9, ["rest"] * 100]
NO_ITEMS = [item for item in NO_PICTURES if item != "rest"] + ["Rest", "rest ", " rest", "REST", b"rest", ["rest"],
                                                             ("rest",), ("00", "rest")]

ZERO, ONE = ("0", (0,)), ("1", (1,))
GHOST, LIGHT = ("0", (1,)), ("1", (0,))
# The ghost of the first change must be flashed at the second one, since there is no rest between them.
SCRIPT = ["1", "0"]
FLOORS = {(0, ZERO): 5, (1, ONE): 5}


def small():
    return Panel((0,), 1, (5,), FLIP)


def with_floors(found, floors):
    return Plan(found.sets, floors)


def scripts_by_chance(seed, panels, longest, many):
    """Give panels with states and scripts for them."""
    source = random.Random(seed)
    found = []
    for panel in panels:
        for _ in range(many):
            state = source.choice(all_states(panel))
            found.append((panel, state, random_script(source, panel, state, source.randint(1, longest))))
    return found


class LeastCostTest(DocumentCase):
    def test_the_example_of_the_interface(self):
        self.example_holds(EXAMPLE, 7)

    def test_costs_that_are_known(self):
        self.assertEqual(least_cost(small(), ZERO, ["1"]), 0)
        self.assertEqual(least_cost(small(), ZERO, ["1", "0"]), 5)
        self.assertEqual(least_cost(small(), ZERO, ["1", "rest", "0"]), 1)
        self.assertEqual(least_cost(small(), ONE, ["0"]), 5)
        self.assertEqual(least_cost(small(), ONE, ["rest"]), 0)

    def test_a_rest_costs_one_for_each_bank_and_not_its_price(self):
        panel = Panel((0, 1, 2), 1, (5, 4, 3), {"000": ("111",), "111": ("000",)})
        full = ("111", (1, 1, 1))
        self.assertEqual(least_cost(panel, full, ["000"]), 12)
        self.assertEqual(least_cost(panel, full, ["rest", "000"]), 3)
        self.assertEqual(least_cost(Panel((0, 0, 0), 1, (5,), panel.follows), full, ["rest", "000"]), 1)
        for banks in all_sets(panel):
            self.assertEqual(cost_with(panel, full, ["rest"], [banks]), len(banks))

    def test_rests_at_the_beginning_at_the_end_and_one_after_another(self):
        for script, cost in ((["rest", "0"], 1), (["0", "1", "rest"], 5), (["rest", "rest", "0"], 1),
                             (["rest", "0", "rest", "1", "rest", "0"], 3), (["rest", "0", "rest", "rest", "1"], 2),
                             (["0", "rest", "rest", "1", "rest"], 5), (["rest"], 0), (["rest"] * 8, 0)):
            self.assertEqual(least_cost(small(), ONE, script), cost, script)
            found = plan(small(), ONE, script)
            self.assertTrue(found.shows(small(), ONE, script))
            self.assertTrue(plan_shown(small(), ONE, script, found))

    def test_a_picture_after_a_rest_follows_the_one_before_it(self):
        panel = example()
        self.assertEqual(least_cost(panel, start(panel), ["rest", "11", "rest", "rest", "01", "00"]), 2)
        with self.assertRaises(BadScript) as caught:
            least_cost(panel, start(panel), ["rest", "11", "rest", "11"])
        self.assertEqual(caught.exception.index, 3)

    def test_a_picture_that_follows_itself(self):
        panel = Panel((0,), 1, (2,), BOTH)
        self.assertEqual(least_cost(panel, ONE, ["1", "1", "1"]), 0)
        self.assertEqual(least_cost(panel, ONE, ["1", "0", "0", "1"]), 2)

    def test_the_least_cost_of_all_ways(self):
        panels = [*samples(), *random_panels(111, 30)]
        for panel, state, script in scripts_by_chance(112, panels, 3, 6):
            self.assertEqual(least_cost(panel, state, script), least_of_all_ways(panel, state, script))

    def test_the_least_cost_of_all_ways_of_longer_scripts(self):
        panels = [panel for panel in [*samples(), *random_panels(113, 60)] if len(panel.prices) == 1]
        for panel, state, script in scripts_by_chance(114, panels, 8, 3):
            self.assertEqual(least_cost(panel, state, script), least_of_all_ways(panel, state, script))

    def test_lists_and_tuples(self):
        panel = example()
        self.assertEqual(least_cost(panel, start(panel), ("11", "00")), 5)
        self.assertEqual(plan(panel, start(panel), ("11", "00")), plan(panel, start(panel), ["11", "00"]))
        self.assertEqual(cost_with(panel, start(panel), ("11", "00"), ((), (0, 1))), 5)


class PlanTest(DocumentCase):
    def test_plans_with_one_to_eight_items(self):
        for panel, state, script in scripts_by_chance(115, [*samples(), *random_panels(116, 40)], 8, 8):
            found = plan(panel, state, script)
            self.assertIsInstance(found, Plan)
            self.assertTrue(plan_shown(panel, state, script, found))
            self.assertIs(found.shows(panel, state, script), True)
            self.assertEqual(least_cost(panel, state, script), cost_of_sets(panel, script, found.sets))
            self.assertEqual(cost_with(panel, state, script, found.sets), least_cost(panel, state, script))

    def test_states_that_cannot_come_about(self):
        panel = Panel((0, 1), 2, (1, 4), {"00": ("01",), "01": ("00",)})
        found = plan(panel, ("01", (2, 2)), ["00", "01", "00"])
        self.assertEqual(found.sets[0], (1,))
        self.assertTrue(found.shows(panel, ("01", (2, 2)), ["00", "01", "00"]))

    def test_the_kinds_of_the_attributes(self):
        for panel, state, script in scripts_by_chance(117, samples(), 8, 3):
            found = plan(panel, state, script)
            self.assertEqual([type(found.sets), type(found.floors)], [list, dict])
            self.assertEqual(len(found.sets), len(script))
            shown = [state[0]]
            for item in script:
                shown.append(shown[-1] if item == "rest" else item)
            for (number, spot), floor in found.floors.items():
                self.assertIn(number, range(len(script) + 1))
                self.assertIn(spot, all_states(panel))
                self.assertEqual(spot[0], shown[number])
                self.assertIs(type(floor), int)

    def test_what_is_returned_is_new(self):
        panel = example()
        found = plan(panel, start(panel), ["11", "00"])
        found.sets.clear()
        found.floors.clear()
        self.assertFalse(found.shows(panel, start(panel), ["11", "00"]))
        self.assertTrue(plan(panel, start(panel), ["11", "00"]).shows(panel, start(panel), ["11", "00"]))
        self.assertEqual(panel, example())

    def test_scripts_and_sets_that_are_passed_are_neither_kept_nor_changed(self):
        panel, script, sets = example(), ["11", "rest", "00"], [(), (0, 1), ()]
        found = plan(panel, start(panel), script)
        self.assertEqual(cost_with(panel, start(panel), script, sets), 2)
        self.assertEqual((script, sets), (["11", "rest", "00"], [(), (0, 1), ()]))
        script.clear()
        self.assertTrue(found.shows(panel, start(panel), ["11", "rest", "00"]))


class ShowsTest(DocumentCase):
    def holds(self, sets=((), (0,)), floors=None, panel=None, state=ZERO, script=SCRIPT):
        panel, floors = panel or small(), FLOORS if floors is None else floors
        found = Plan(sets, floors)
        self.assertEqual(found.shows(panel, state, script), plan_shown(panel, state, script, found))
        return found.shows(panel, state, script)

    def test_right_evidence(self):
        self.assertIs(self.holds(), True)
        self.assertTrue(self.holds(floors=dict(reversed(list(FLOORS.items())))))

    def test_more_floors_that_do_not_matter(self):
        self.assertTrue(self.holds(floors={**FLOORS, (1, LIGHT): 0, (2, ZERO): 0, (2, GHOST): -3, (0, GHOST): -10 ** 30}))
        self.assertTrue(self.holds(floors={**FLOORS, (0, GHOST): 5, (1, LIGHT): 0}))

    def test_floors_of_other_spots_must_hold_too(self):
        self.assertFalse(self.holds(floors={**FLOORS, (1, LIGHT): 1}))
        self.assertFalse(self.holds(floors={**FLOORS, (0, GHOST): 6}))
        self.assertFalse(self.holds(floors={**FLOORS, (2, ZERO): 1}))

    def test_sets_that_cost_more_than_the_least(self):
        self.assertFalse(self.holds(sets=[(0,), (0,)]))
        # Floors can be no greater than the least cost, here 5 as well.
        self.assertTrue(self.holds(sets=[(0,), ()]))
        self.assertFalse(self.holds(sets=[(0,), (0,)], floors={(0, ZERO): 10, (1, ONE): 5, (1, LIGHT): 5}))

    def test_sets_that_cannot_be_flashed_or_are_too_few_or_too_many(self):
        self.assertFalse(self.holds(sets=[(), ()]))
        for sets in ([], [()], [(0,)], [(), (0,), ()], [(), (0,), (0,)]):
            self.assertFalse(self.holds(sets=sets), sets)

    def test_floors_that_are_too_great_too_small_or_missing(self):
        for spot in FLOORS:
            for way in (-1, 1):
                self.assertFalse(self.holds(floors={**FLOORS, spot: FLOORS[spot] + way}), (spot, way))
            self.assertFalse(self.holds(floors={other: 5 for other in FLOORS if other != spot}))
        self.assertFalse(self.holds(floors={}))

    def test_no_floor_is_needed_if_nothing_is_paid(self):
        for floors in ({}, {(0, ZERO): 0}, {(0, ZERO): -1}, {(0, GHOST): -4, (1, ONE): 0}):
            self.assertTrue(self.holds([()], floors, script=["1"]))
            self.assertFalse(self.holds([(0,)], floors, script=["1"]))
        self.assertFalse(self.holds([()], {(0, ZERO): 1}, script=["1"]))

    def test_rests(self):
        script, spots = ["1", "rest", "0"], {(0, ZERO): 1, (1, ONE): 1, (2, ONE): 1}
        self.assertTrue(self.holds([(), (0,), ()], spots, script=script))
        self.assertFalse(self.holds([(), (), (0,)], spots, script=script))
        self.assertFalse(self.holds([(), (0,), (0,)], spots, script=script))
        self.assertFalse(self.holds([(), (), ()], spots, script=script))
        for spot in spots:
            self.assertFalse(self.holds([(), (0,), ()], {other: 1 for other in spots if other != spot}, script=script))

    def test_a_floor_without_items_left(self):
        for script in (["1"], ["1", "0"]):
            last = (len(script), ("01"[len(script) % 2], (0,)))
            sets = [(), (0,)][:len(script)]
            floors = FLOORS if len(script) == 2 else {}
            self.assertTrue(self.holds(sets, {**floors, last: 0}, script=script))
            self.assertFalse(self.holds(sets, {**floors, last: 1}, script=script))

    def test_evidence_for_something_else(self):
        found = Plan([(), (0,)], FLOORS)
        self.assertFalse(found.shows(small(), ONE, ["0", "1"]))
        self.assertFalse(found.shows(small(), ZERO, ["1", "rest"]))
        self.assertFalse(found.shows(small(), ZERO, ["1", "rest", "0"]))
        self.assertFalse(found.shows(Panel((0,), 1, (4,), FLIP), ZERO, SCRIPT))
        self.assertFalse(found.shows(Panel((0,), 2, (5,), FLIP), ZERO, SCRIPT))
        self.assertTrue(found.shows(Panel((0,), 1, (5,), BOTH), ZERO, SCRIPT))

    def test_evidence_that_is_changed_by_chance(self):
        source = random.Random(118)
        for panel, state, script in scripts_by_chance(119, [*samples(), *random_panels(120, 20)], 6, 2):
            found = plan(panel, state, script)
            for _ in range(15):
                changed = changed_by_chance(source, panel, found)
                self.assertEqual(changed.shows(panel, state, script), plan_shown(panel, state, script, changed))

    def test_all_ways_with_the_least_cost_are_right(self):
        for panel, state, script in scripts_by_chance(121, samples(), 3, 2):
            found = plan(panel, state, script)
            least = least_cost(panel, state, script)
            for sets in all_ways(panel, state, script):
                right = cost_of_sets(panel, script, sets) == least
                self.assertEqual(Plan(sets, found.floors).shows(panel, state, script), right)

    def test_the_current_attributes_count(self):
        found = Plan([(), (0,)], FLOORS)
        found.sets[1] = ()
        self.assertFalse(found.shows(small(), ZERO, SCRIPT))
        found.sets = [(), (0,)]
        self.assertTrue(found.shows(small(), ZERO, SCRIPT))
        found.floors[(1, ONE)] = 6
        self.assertFalse(found.shows(small(), ZERO, SCRIPT))
        found.floors = dict(FLOORS)
        self.assertEqual(found, Plan([(), (0,)], FLOORS))


def changed_by_chance(source, panel, found):
    """Change or remove one item of one part."""
    if source.random() < 0.5 or not found.floors:
        sets = list(found.sets)
        at = source.randrange(len(sets))
        sets[at:at + 1] = [source.choice(all_sets(panel))] if source.random() < 0.8 else []
        return Plan(sets, found.floors)
    floors = dict(found.floors)
    spot = source.choice(list(floors))
    floors[spot] += source.choice([-1, 1])
    if source.random() < 0.2:
        del floors[spot]
    return with_floors(found, floors)


class CostWithTest(DocumentCase):
    def test_sets_by_chance(self):
        source = random.Random(122)
        for panel, state, script in scripts_by_chance(123, [*samples(), *random_panels(124, 20)], 8, 4):
            sets = random_sets(source, panel, state, script)
            self.assertEqual(cost_with(panel, state, script, sets), cost_of_sets(panel, script, sets))
            self.assertEqual(cost_with(panel, state, tuple(script), tuple(sets)), cost_of_sets(panel, script, sets))

    def test_the_first_set_that_cannot_be_flashed(self):
        source = random.Random(125)
        for panel, state, script in scripts_by_chance(126, [*samples(), *random_panels(127, 20)], 8, 4):
            sets = [source.choice(all_sets(panel)) for _ in script]
            wrong, before = None, state
            for index, (item, banks) in enumerate(zip(script, sets)):
                if banks not in sets_for(panel, before, item):
                    wrong = index
                    break
                before = next_state(panel, before, item, banks)
            if wrong is None:
                self.assertEqual(cost_with(panel, state, script, sets), cost_of_sets(panel, script, sets))
            else:
                self.refused_at(wrong, panel, state, script, sets)

    def refused_at(self, index, panel, state, script, sets):
        with self.assertRaises(BadSets) as caught:
            cost_with(panel, state, script, sets)
        self.assertEqual(caught.exception.index, index)

    def test_not_as_many_sets_as_items(self):
        for sets in (*STRANGE, 0, "", "ab", {}, {(): 0, (0,): 1}, [], (), [()], [()] * 3, [(), (0, 1), ()], ((0, 1),)):
            self.refused_at(None, example(), start(example()), ["11", "00"], sets)

    def test_not_sets_of_banks(self):
        for banks in NO_BANKS:
            self.refused_at(0, example(), start(example()), ["11", "00"], [banks, (0, 1)])
            self.refused_at(1, example(), start(example()), ["11", "00"], ((), banks))
            self.refused_at(1, example(), start(example()), ["11", "rest"], [(), banks])
            self.refused_at(0, example(), start(example()), ["rest", "11"], [banks, (0, 5)])

    def test_a_rest_takes_all_sets_and_an_update_only_some(self):
        panel, full = example(), ("11", (1, 1))
        for banks in all_sets(panel):
            self.assertEqual(cost_with(panel, full, ["rest"], [banks]), len(banks))
            if banks != (0, 1):
                self.refused_at(0, panel, full, ["00"], [banks])
                self.refused_at(1, panel, full, ["rest", "00"], [(), banks])
        self.assertEqual(cost_with(panel, full, ["rest", "00"], [(0,), (1,)]), 4)
        self.refused_at(1, panel, full, ["rest", "00"], [(0,), (0,)])


class RefusedTest(DocumentCase):
    def functions(self):
        return [plan, least_cost, Plan([], {}).shows, lambda *rest: cost_with(*rest, []),
                lambda *rest: cost_with(*rest, None), lambda *rest: cost_with(*rest, [()] * len(rest))]

    def refused_at(self, index, *rest):
        for function in self.functions():
            with self.assertRaises(BadScript) as caught:
                function(*rest)
            self.assertEqual(caught.exception.index, index)

    def test_errors_in_order(self):
        for function in self.functions():
            for rest in ((("00", (0, 0)), ["11"]), (None, ["11"]), (("00", (0, 0)), []), (None, None)):
                self.panel_refused(function, *rest)
            for script in (["11"], [], None, ["00"]):
                self.state_refused(function, script)

    def test_not_scripts(self):
        for script in NO_SCRIPTS:
            self.refused_at(None, example(), ("11", (1, 0)), script)

    def test_the_first_wrong_item(self):
        for item in NO_ITEMS:
            self.refused_at(0, example(), ("11", (1, 0)), [item])
            self.refused_at(0, example(), ("11", (1, 0)), [item, "rest", "00", item])
            self.refused_at(2, example(), ("01", (1, 0)), ("00", "11", item, "00"))
            self.refused_at(7, example(), ("11", (1, 0)), ["rest"] * 7 + [item])
        self.refused_at(0, example(), ("11", (1, 0)), [Agreeable()])
        self.refused_at(None, example(), ("11", (1, 0)), ["rest"] * 8 + [None])

    def test_pictures_that_follow_another_one(self):
        for state in all_states(example()):
            for item in ("00", "01", "11"):
                if item not in THREE[state[0]]:
                    self.refused_at(0, example(), state, [item])
                    self.refused_at(1, example(), state, ["rest", item])

    def test_a_wrong_state_before_a_wrong_script_before_wrong_sets(self):
        for sets in ([()], None, []):
            self.state_refused(cost_with, [None], sets)
            with self.assertRaises(BadScript) as caught:
                cost_with(example(), ("00", (0, 0)), ["11", "11"], sets)
            self.assertEqual(caught.exception.index, 1)


class ObjectTest(DocumentCase):
    def test_equality_is_that_of_both_attributes(self):
        found = Plan([(), (0,)], FLOORS)
        self.assertIs(found == Plan([(), (0,)], dict(reversed(list(FLOORS.items())))), True)
        self.assertNotEqual(found, Plan([(0,), ()], FLOORS))
        self.assertNotEqual(found, Plan([(), (0,)], {(0, ZERO): 5}))
        self.assertNotEqual(found, Plan([(), (0,)], {**FLOORS, (1, ONE): 4}))
        self.assertEqual(plan(small(), ZERO, SCRIPT), plan(small(), ZERO, SCRIPT))

    def test_what_is_passed_is_neither_kept_nor_changed(self):
        sets, floors = [(), (0,)], dict(FLOORS)
        found = Plan(sets, floors)
        self.assertTrue(found.shows(small(), ZERO, SCRIPT))
        self.assertEqual((sets, floors), ([(), (0,)], FLOORS))
        sets.clear()
        floors.clear()
        self.assertEqual((found.sets, found.floors), ([(), (0,)], FLOORS))
        other = Plan(found.sets, found.floors)
        other.sets.append(())
        other.floors.clear()
        self.assertEqual(found, Plan([(), (0,)], FLOORS))

    def test_names(self):
        self.names_are_defined_in(module, "plan", "least_cost", "cost_with", "Plan")
        found = Plan(floors=FLOORS, sets=[(), (0,)])
        self.assertTrue(found.shows(script=SCRIPT, state=ZERO, panel=small()))
        self.assertTrue(plan(script=SCRIPT, state=ZERO, panel=small()).shows(small(), ZERO, SCRIPT))
        self.assertEqual(least_cost(script=SCRIPT, state=ZERO, panel=small()), 5)
        self.assertEqual(cost_with(sets=[(), (0,)], script=SCRIPT, state=ZERO, panel=small()), 5)


if __name__ == "__main__":
    unittest.main()
