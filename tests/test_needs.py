"""Tests of inkghost.needs: point 7 of the document."""

import random
import unittest

from inkghost import needs
from inkghost.errors import BadBanks
from inkghost.needs import Breaking, Holding, can_keep, keeping, needed
from inkghost.panels import Panel
from plain import breaking_shown, can_hold, holding_shown
from samples import CUBE, FLIP, all_sets, all_states, example, must_flash, random_panels, samples
from wrong import DocumentCase

EXAMPLE = """
>>> from inkghost.coming import coming, coming_cost
>>> from inkghost.needs import can_keep, keeping, needed
>>> from inkghost.panels import Panel
>>> from inkghost.states import start
>>> panel = Panel((0, 1), 1, (2, 3), {'00': ('11',), '11': ('00', '01'), '01': ('00',)})
>>> costs = [coming_cost(panel, start(panel), 1), coming_cost(panel, start(panel), 2), coming_cost(panel, start(panel), 4)]
>>> [costs, coming(panel, start(panel), 3).shows(panel, start(panel), 3), needed(panel), can_keep(panel, (1,)), keeping(panel, (1,)).shows(panel, (1,)), needed(Panel((0, 1), 1, (1, 1), {'00': ('01',), '01': ('00',)}))]
[[0, 5, 10], True, (0, 1), False, True, (1,)]
"""

ZERO, ONE = ("0", (0,)), ("1", (1,))
GHOST, LIGHT = ("0", (1,)), ("1", (0,))
STATES = [ZERO, ONE]
ANSWERS = {(ZERO, "1"): (), (ONE, "0"): (0,)}
PLAN = {ZERO: (1, "1"), ONE: (0, "0")}
# Only the second cell changes, so only its bank is needed.
SECOND = {"00": ("01",), "01": ("00",)}


def small():
    return Panel((0,), 1, (1,), FLIP)


def second():
    return Panel((0, 1), 1, (1, 1), SECOND)


def is_shown(panel, banks, found):
    return (holding_shown if isinstance(found, Holding) else breaking_shown)(panel, banks, found)


class KeepingTest(DocumentCase):
    def test_the_example_of_the_interface(self):
        self.example_holds(EXAMPLE, 7)

    def test_panels_that_are_known(self):
        self.assertFalse(can_keep(small(), ()))
        self.assertTrue(can_keep(small(), (0,)))
        self.assertEqual([can_keep(second(), banks) for banks in all_sets(second())], [False, False, True, True])
        self.assertEqual([can_keep(example(), banks) for banks in all_sets(example())], [False, False, False, True])
        panel = Panel((0, 1, 2), 2, (1, 1, 1), {"000": ("100",), "100": ("101",), "101": ("000",)})
        self.assertEqual([banks for banks in all_sets(panel) if can_keep(panel, banks)], [(0, 2), (0, 1, 2)])
        self.assertEqual(needed(panel), (0, 2))

    def test_the_empty_set_and_all_banks(self):
        for panel in [*samples(), *random_panels(71, 30)]:
            every = tuple(range(len(panel.prices)))
            self.assertTrue(can_keep(panel, every))
            self.assertEqual(can_keep(panel, ()), len(panel.follows) == 1)
            self.assertIsInstance(keeping(panel, every), Holding)
            self.assertIsInstance(keeping(panel, ()), Holding if len(panel.follows) == 1 else Breaking)

    def test_a_panel_with_one_picture_that_follows_itself(self):
        panel = Panel((1, 0), 4, (3, 1), {"10": ("10",)})
        for banks in all_sets(panel):
            self.assertTrue(can_keep(panel, banks))
            self.assertTrue(keeping(panel, banks).shows(panel, banks))
        self.assertEqual(needed(panel), ())

    def test_many_panels_and_all_sets(self):
        for panel in [*samples(), *random_panels(72, 40)]:
            holding = []
            for banks in all_sets(panel):
                found = keeping(panel, banks)
                self.assertEqual(isinstance(found, Holding), can_hold(panel, banks))
                self.assertIs(can_keep(panel, banks), isinstance(found, Holding))
                self.assertTrue(is_shown(panel, banks, found))
                self.assertIs(found.shows(panel, banks), True)
                if can_keep(panel, banks):
                    holding.append(banks)
            # The least set is one of those that are enough, and is contained in all of them.
            self.assertIn(needed(panel), holding)
            self.assertTrue(all(set(needed(panel)) <= set(banks) for banks in holding))

    def test_the_bank_and_not_the_cell_counts(self):
        self.assertEqual(needed(Panel((1, 0), 1, (1, 1), SECOND)), (0,))
        self.assertEqual(needed(Panel((0, 0), 1, (1,), SECOND)), (0,))
        self.assertEqual(needed(Panel((0, 0, 1), 2, (1, 1), CUBE)), (0, 1))

    def test_the_kinds_of_the_attributes(self):
        for panel in samples():
            for banks in all_sets(panel):
                found = keeping(panel, banks)
                if isinstance(found, Holding):
                    self.assertEqual((type(found.states), type(found.answers)), (list, dict))
                    self.assertTrue(set(found.states) <= set(all_states(panel)))
                    self.assertTrue(all(set(answer) <= set(banks) for answer in found.answers.values()))
                else:
                    self.assertIs(type(found.plan), dict)
                    for state, pair in found.plan.items():
                        self.assertIn(state, all_states(panel))
                        self.assertEqual([type(part) for part in (pair, *pair)], [tuple, int, str])
            self.assertIs(type(needed(panel)), tuple)


class HoldingTest(DocumentCase):
    def setUp(self):
        self.panel = small()

    def holds(self, states=None, answers=None, banks=(0,)):
        found = Holding(STATES if states is None else states, ANSWERS if answers is None else answers)
        self.assertEqual(found.shows(self.panel, banks), holding_shown(self.panel, banks, found))
        return found.shows(self.panel, banks)

    def test_right_evidence(self):
        self.assertIs(self.holds(), True)
        self.assertTrue(self.holds(states=[ONE, ZERO], answers=dict(reversed(list(ANSWERS.items())))))
        self.assertTrue(self.holds(states=[ONE, ZERO, ONE]))
        self.assertTrue(self.holds(answers={**ANSWERS, (ONE, "1"): (), (GHOST, "1"): ()}))
        self.assertTrue(self.holds(states=[ZERO, LIGHT], answers={(ZERO, "1"): (0,), (LIGHT, "0"): (0,)}))

    def test_states_that_are_missing(self):
        for states in ([], [ZERO], [ONE], [GHOST, ONE]):
            self.assertFalse(self.holds(states=states))

    def test_the_beginning_is_missing_from_a_list_that_holds_otherwise(self):
        answers = {(LIGHT, "0"): (), (GHOST, "1"): (0,), (ZERO, "1"): ()}
        self.assertFalse(self.holds(states=[LIGHT, GHOST], answers=answers))
        self.assertTrue(self.holds(states=[LIGHT, GHOST, ZERO], answers={**answers, (ZERO, "1"): (0,)}))

    def test_answers_that_are_missing_or_cannot_be_given(self):
        for pair in ANSWERS:
            self.assertFalse(self.holds(answers={other: ANSWERS[other] for other in ANSWERS if other != pair}))
        self.assertFalse(self.holds(answers={**ANSWERS, (ONE, "0"): ()}))
        self.assertFalse(self.holds(answers={}))
        for panel in samples():
            every = tuple(range(len(panel.prices)))
            found = keeping(panel, every)
            for state, picture in found.answers:
                for banks in all_sets(panel):
                    if not must_flash(panel, state, picture) <= set(banks):
                        changed = Holding(found.states, {**found.answers, (state, picture): banks})
                        self.assertFalse(changed.shows(panel, every))

    def test_banks_outside_of_the_set(self):
        self.assertFalse(self.holds(banks=()))
        panel = second()
        answers = {(("00", (0, 0)), "01"): (0, 1), (("01", (0, 0)), "00"): (1,)}
        found = Holding([("00", (0, 0)), ("01", (0, 0))], answers)
        self.assertTrue(found.shows(panel, (0, 1)))
        self.assertFalse(found.shows(panel, (1,)))
        self.assertFalse(found.shows(panel, (0,)))
        # Another pair does not matter, whatever its banks are.
        other = {(("00", (0, 0)), "01"): (1,), (("01", (0, 0)), "00"): (1,), (("00", (1, 1)), "01"): (0, 1)}
        self.assertTrue(Holding([("00", (0, 0)), ("01", (0, 0))], other).shows(panel, (1,)))

    def test_a_holding_for_another_panel(self):
        found = keeping(second(), (1,))
        self.assertTrue(found.shows(second(), (1,)))
        self.assertFalse(found.shows(Panel((1, 0), 1, (1, 1), SECOND), (1,)))
        self.assertFalse(found.shows(example(), (1,)))

    def test_evidence_that_is_changed_by_chance(self):
        source = random.Random(74)
        for panel in [*samples(), *random_panels(75, 12)]:
            every = tuple(range(len(panel.prices)))
            found = keeping(panel, every)
            for _ in range(25):
                states, answers = list(found.states), dict(found.answers)
                pair = source.choice(list(answers))
                if source.random() < 0.3:
                    states.pop(source.randrange(len(states)))
                elif source.random() < 0.3:
                    del answers[pair]
                else:
                    answers[pair] = source.choice(all_sets(panel))
                changed = Holding(states, answers)
                banks = source.choice([every, needed(panel)])
                self.assertEqual(changed.shows(panel, banks), holding_shown(panel, banks, changed))


class BreakingTest(DocumentCase):
    def setUp(self):
        self.panel = small()

    def holds(self, plan, banks=()):
        found = Breaking(plan)
        self.assertEqual(found.shows(self.panel, banks), breaking_shown(self.panel, banks, found))
        return found.shows(self.panel, banks)

    def test_right_evidence(self):
        self.assertIs(self.holds(PLAN), True)
        self.assertTrue(self.holds(dict(reversed(list(PLAN.items())))))
        self.assertTrue(self.holds({ZERO: (10 ** 30, "1"), ONE: (5, "0")}))
        self.assertTrue(self.holds({**PLAN, GHOST: (0, "1"), LIGHT: (1, "0")}))

    def test_ranks_that_are_too_great_or_too_small(self):
        for plan in ({ZERO: (0, "1"), ONE: (0, "0")}, {ZERO: (1, "1"), ONE: (1, "0")}, {ZERO: (1, "1"), ONE: (2, "0")},
                     {ZERO: (1, "1"), ONE: (-1, "0")}, {ZERO: (-1, "1"), ONE: (-2, "0")},
                     {ZERO: (1, "1"), ONE: (0, "0"), GHOST: (-1, "1")}):
            self.assertFalse(self.holds(plan), plan)

    def test_states_that_are_missing(self):
        for plan in ({}, {ZERO: (1, "1")}, {ONE: (0, "0")}, {GHOST: (0, "1"), ONE: (0, "0")}):
            self.assertFalse(self.holds(plan), plan)

    def test_pictures_that_cannot_follow(self):
        self.assertFalse(self.holds({ZERO: (1, "0"), ONE: (0, "0")}))
        self.assertFalse(self.holds({ZERO: (1, "1"), ONE: (0, "1")}))
        self.assertFalse(self.holds({**PLAN, GHOST: (0, "0")}))

    def test_each_answer_of_the_set_counts(self):
        self.assertFalse(self.holds(PLAN, banks=(0,)))
        panel = example()
        found = keeping(panel, (1,))
        self.assertTrue(found.shows(panel, (1,)))
        self.assertTrue(keeping(panel, ()).shows(panel, ()))
        self.assertFalse(found.shows(panel, (0, 1)))

    def test_a_plan_for_another_panel(self):
        found = keeping(second(), (0,))
        self.assertTrue(found.shows(second(), (0,)))
        self.assertFalse(found.shows(Panel((1, 0), 1, (1, 1), SECOND), (0,)))
        self.assertFalse(found.shows(Panel((0, 1), 2, (1, 1), SECOND), (0,)))

    def test_evidence_that_is_changed_by_chance(self):
        source = random.Random(77)
        for panel in [*samples(), *random_panels(78, 20)]:
            breaking = [banks for banks in all_sets(panel) if not can_keep(panel, banks)]
            for _ in range(25 if breaking else 0):
                banks = source.choice(breaking)
                plan = dict(keeping(panel, banks).plan)
                state = source.choice(list(plan))
                rank, picture = plan[state]
                plan[state] = source.choice([(rank - 1, picture), (rank + 1, picture), (0, picture),
                                             (rank, source.choice(list(panel.follows)))])
                if source.random() < 0.2:
                    del plan[state]
                changed = Breaking(plan)
                self.assertEqual(changed.shows(panel, banks), breaking_shown(panel, banks, changed))


class ObjectTest(DocumentCase):
    def test_equality(self):
        self.assertEqual(Holding(STATES, ANSWERS), Holding(list(STATES), dict(reversed(list(ANSWERS.items())))))
        self.assertNotEqual(Holding(STATES, ANSWERS), Holding([ZERO], ANSWERS))
        self.assertNotEqual(Holding(STATES, ANSWERS), Holding(STATES, {}))
        self.assertEqual(Breaking(PLAN), Breaking(dict(reversed(list(PLAN.items())))))
        self.assertNotEqual(Breaking(PLAN), Breaking({**PLAN, ONE: (0, "1")}))
        self.assertEqual(keeping(example(), (1,)), keeping(example(), (1,)))
        self.assertEqual(keeping(example(), (0, 1)), keeping(example(), (0, 1)))

    def test_what_is_passed_is_neither_kept_nor_changed(self):
        states, answers, plan = list(STATES), dict(ANSWERS), dict(PLAN)
        holding, breaking = Holding(states, answers), Breaking(plan)
        self.assertTrue(holding.shows(small(), (0,)))
        self.assertTrue(breaking.shows(small(), ()))
        self.assertEqual((states, answers, plan), (STATES, ANSWERS, PLAN))
        for items in (states, answers, plan):
            items.clear()
        self.assertEqual((holding.states, holding.answers, breaking.plan), (STATES, ANSWERS, PLAN))

    def test_what_is_returned_is_new(self):
        panel = example()
        holding, breaking = keeping(panel, (0, 1)), keeping(panel, (0,))
        for items in (holding.states, holding.answers, breaking.plan):
            items.clear()
        self.assertFalse(holding.shows(panel, (0, 1)))
        self.assertFalse(breaking.shows(panel, (0,)))
        self.assertTrue(keeping(panel, (0, 1)).shows(panel, (0, 1)))
        self.assertTrue(keeping(panel, (0,)).shows(panel, (0,)))
        self.assertEqual(panel, example())

    def test_the_current_attributes_count(self):
        found = Holding([], {})
        self.assertFalse(found.shows(small(), (0,)))
        found.states, found.answers = list(STATES), dict(ANSWERS)
        self.assertTrue(found.shows(small(), (0,)))
        self.assertEqual(found, Holding(STATES, ANSWERS))
        found = Breaking(PLAN)
        found.plan[ONE] = (1, "0")
        self.assertFalse(found.shows(small(), ()))
        found.plan = PLAN
        self.assertTrue(found.shows(small(), ()))

    def test_errors_in_order(self):
        for function in (keeping, can_keep, Holding([], {}).shows, Breaking({}).shows):
            for banks in ((), (0, 1), None, [0], (1, 0)):
                self.panel_refused(function, banks)
            self.banks_refused(function)
        self.panel_refused(needed)

    def test_banks_of_another_panel(self):
        for function in (keeping, can_keep, Holding(STATES, ANSWERS).shows, Breaking(PLAN).shows):
            with self.assertRaises(BadBanks):
                function(small(), (1,))

    def test_names(self):
        self.names_are_defined_in(needs, "keeping", "can_keep", "needed", "Holding", "Breaking")
        self.assertEqual(keeping(banks=(), panel=small()), keeping(small(), ()))
        self.assertTrue(can_keep(banks=(0,), panel=small()))
        self.assertEqual(needed(panel=small()), (0,))
        self.assertTrue(Holding(answers=ANSWERS, states=STATES).shows(banks=(0,), panel=small()))
        self.assertTrue(Breaking(plan=PLAN).shows(banks=(), panel=small()))


if __name__ == "__main__":
    unittest.main()
