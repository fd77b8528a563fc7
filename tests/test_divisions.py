"""Tests of inkghost.divisions: point 12 of the document."""

import random
import unittest
from fractions import Fraction

from inkghost import divisions as module
from inkghost.divisions import Divide, divide, divided, divisions, fewest_banks
from inkghost.errors import BadDivision, BadLimit, BadRates
from inkghost.means import Mean, least_mean, mean
from inkghost.panels import Panel
from plain import best_mean_by_all_drivers
from plain_steps import all_divisions, divide_shown, panel_divided
from samples import BOTH, CUBE, FLIP, STRANGE, example, random_panels, samples
from wrong import DocumentCase

EXAMPLE = """
>>> from inkghost.divisions import divide, divided, divisions, fewest_banks
>>> from inkghost.panels import Panel
>>> panel = Panel((0, 0, 0), 1, (1,), {'000': ('100',), '100': ('000',)})
>>> rates = (1, 2, 3)
>>> found = divide(panel, rates, (1, 2))
>>> [divisions(panel), found.division, len(found.means), found.shows(panel, rates, (1, 2)), divided(panel, (0, 1, 0), rates).prices, fewest_banks(panel, rates, (1, 3))]
[[(0, 0, 0), (0, 0, 1), (0, 1, 0), (0, 1, 1), (0, 1, 2)], (0, 1, 1), 2, True, (2, 1), None]
"""

# For a panel with two cells.
NO_DIVISIONS = [*STRANGE, 0, "", "01", {}, (), (0,), (0, 0, 0), (1, 0), (1, 1), (0, 2), (-1, 0), (0, -1), [0, 1],
                (False, False), (0, True), (False, 1), (0, None), (0, "1"), (0, (1,)), ([], 0), (0, 10 ** 40), (0, 1, 2)]
NO_RATES = [*STRANGE, 0, 1, "", "12", {}, {0: 1, 1: 2}, (), (1,), (1, 2, 3), [1, 2], (0, 1), (1, 0), (6, 1), (1, 6),
            (-1, 1), (True, 1), (1, True), (None, 1), (1, "2"), (1, (2,)), ([1], 2), (1, 10 ** 40), ((1, 2),)]
NO_LIMITS = [*STRANGE, 0, 1, "", "12", {}, {0: 1, 1: 2}, (), (1,), (1, 2, 3), [1, 2], (-1, 1), (21, 1), (1, 0), (1, 21),
             (0, 0), (1, -1), (False, 1), (1, True), (True, 1), (None, 1), (1, None), ("1", 2), (1, (2,)), ([], 1),
             (10 ** 40, 1), (1, 10 ** 40), ((1, 2),)]


def cube():
    """Make a panel of which only the first cell changes."""
    return Panel((0, 0, 0), 1, (1,), {"000": ("100",), "100": ("000",)})


def problems(seed, panels, many):
    """Give panels with rates and limits by chance, and with limits at their least and greatest."""
    source = random.Random(seed)
    found = []
    for panel in panels:
        for _ in range(many):
            rates = tuple(source.randint(1, 5) for _ in panel.banks)
            found.append((panel, rates, (source.randint(0, 20), source.randint(1, 20))))
        found += [(panel, (5,) * len(panel.banks), limit) for limit in ((0, 1), (0, 20), (1, 20), (20, 20), (20, 1))]
    return found


def backwards(items):
    return dict(reversed(list(items.items())))


class DivisionsTest(DocumentCase):
    def test_the_example_of_the_interface(self):
        self.example_holds(EXAMPLE, 6)

    def test_one_two_and_three_cells(self):
        self.assertEqual(divisions(Panel((0,), 1, (1,), FLIP)), [(0,)])
        self.assertEqual(divisions(example()), [(0, 0), (0, 1)])
        self.assertEqual(divisions(cube()), [(0, 0, 0), (0, 0, 1), (0, 1, 0), (0, 1, 1), (0, 1, 2)])

    def test_all_and_in_order(self):
        for panel in [*samples(), *random_panels(131, 12)]:
            self.assertEqual(divisions(panel), all_divisions(len(panel.banks)))

    def test_the_list_is_new(self):
        panel = cube()
        divisions(panel).clear()
        self.assertEqual(len(divisions(panel)), 5)

    def test_not_a_panel(self):
        self.panel_refused(divisions)


class DividedTest(DocumentCase):
    def test_prices_by_the_number_of_cells(self):
        prices = {division: divided(cube(), division, (3, 1, 5)).prices for division in divisions(cube())}
        self.assertEqual(prices, {(0, 0, 0): (5,), (0, 0, 1): (1, 3), (0, 1, 0): (1, 3), (0, 1, 1): (3, 1),
                                  (0, 1, 2): (3, 3, 3)})
        self.assertEqual(divided(Panel((0,), 1, (5,), FLIP), (0,), (2,)).prices, (2,))

    def test_the_bound_and_the_pictures_stay(self):
        for panel in [*samples(), *random_panels(132, 12)]:
            for division in divisions(panel):
                for rates in ((1,) * len(panel.banks), (5,) * len(panel.banks), (5, 3, 4)[:len(panel.banks)]):
                    found = divided(panel, division, rates)
                    self.assertEqual(found, panel_divided(panel, division, rates))
                    self.assertEqual((found.banks, found.bound, found.follows), (division, panel.bound, panel.follows))

    def test_the_panel_stays_as_it_is(self):
        panel = example()
        divided(panel, (0, 0), (1, 1))
        divide(panel, (1, 1), (0, 1))
        self.assertEqual(panel, example())

    def test_errors_in_order(self):
        for rest in (((0, 1), (1, 2)), (None, (1, 2)), ((0, 1), None), (None, None)):
            self.panel_refused(divided, *rest)
        for division in NO_DIVISIONS:
            for rates in ((1, 2), None, (1, 2, 3)):
                with self.assertRaises(BadDivision):
                    divided(example(), division, rates)
        for rates in NO_RATES:
            with self.assertRaises(BadRates):
                divided(example(), (0, 1), rates)

    def test_divisions_with_one_and_three_cells(self):
        for division in ((0, 0), (0, 1), (1,), (True,), (False,), (-1,), ()):
            with self.assertRaises(BadDivision):
                divided(Panel((0,), 1, (1,), FLIP), division, (1,))
        for division in ((0, 2, 1), (1, 0, 0), (1, 2, 0), (0, 0, 2), (0, 1, 3), (0, 2, 2), (0, 0), (0, 1, 2, 3)):
            with self.assertRaises(BadDivision):
                divided(cube(), division, (1, 1, 1))

    def test_the_banks_of_a_panel_need_not_be_a_division(self):
        panel = Panel((1, 0), 1, (1, 1), example().follows)
        with self.assertRaises(BadDivision):
            divided(panel, panel.banks, (1, 1))
        self.assertEqual(divided(panel, (0, 1), (4, 1)).prices, (4, 4))


class DivideTest(DocumentCase):
    def test_panels_that_are_known(self):
        # A flash of the first cell at each second update is enough; its bank should be as small as it can be.
        for limit, division in (((0, 1), None), ((1, 3), None), ((9, 19), None), ((1, 2), (0, 1, 1)), ((10, 20), (0, 1, 1)),
                                ((2, 3), (0, 1, 1)), ((1, 1), (0, 0, 1)), ((3, 2), (0, 0, 0)), ((20, 1), (0, 0, 0))):
            found = divide(cube(), (1, 2, 3), limit)
            self.assertEqual(found.division, division or found.division, limit)
            self.assertEqual(found.division is None, division is None, limit)
        self.assertEqual(divide(Panel((0,), 1, (5,), FLIP), (1,), (1, 2)).division, (0,))
        self.assertIsNone(divide(Panel((0,), 1, (1,), FLIP), (5,), (1, 2)).division)
        # Nothing is ever paid where nothing changes.
        self.assertEqual(divide(Panel((0,), 1, (1,), {"1": ("1",)}), (5,), (0, 1)).division, (0,))

    def test_a_mean_that_is_the_limit_is_enough(self):
        panel = Panel((0,), 2, (1,), FLIP)
        self.assertEqual(least_mean(divided(panel, (0,), (4,))), (4, 3))
        for limit, many in (((4, 3), 1), ((8, 6), 1), ((16, 12), 1), ((20, 15), 1), ((13, 10), None), ((19, 14), 1)):
            self.assertEqual(fewest_banks(panel, (4,), limit), many, limit)

    def test_the_means_of_the_panel_of_each_division(self):
        panel = Panel((0, 0), 1, (1,), {"00": ("01",), "01": ("00",)})
        for rates in ((1, 1), (1, 5), (5, 1), (2, 3)):
            for division in divisions(panel):
                expected = best_mean_by_all_drivers(panel_divided(panel, division, rates))
                self.assertEqual(divide(panel, rates, (0, 1)).means[division].mean, expected)

    def test_the_first_one_within_the_limit(self):
        for panel, rates, limit in problems(133, [*samples(), *random_panels(134, 25)], 4):
            found = divide(panel, rates, limit)
            means = {division: least_mean(panel_divided(panel, division, rates))
                     for division in all_divisions(len(panel.banks))}
            cheap = [division for division in means if Fraction(*means[division]) <= Fraction(*limit)]
            self.assertEqual(found.division, cheap[0] if cheap else None)
            self.assertEqual(fewest_banks(panel, rates, limit), len(set(cheap[0])) if cheap else None)
            asked = [division for division in means if not cheap or division == cheap[0]
                     or len(set(division)) < len(set(cheap[0]))]
            self.assertEqual([(division, held.mean) for division, held in found.means.items()],
                             [(division, means[division]) for division in asked])

    def test_what_is_returned_is_right(self):
        for panel, rates, limit in problems(135, [*samples(), *random_panels(136, 25)], 3):
            found = divide(panel, rates, limit)
            self.assertIsInstance(found, Divide)
            self.assertIs(type(found.means), dict)
            self.assertTrue(all(isinstance(held, Mean) for held in found.means.values()))
            self.assertTrue(divide_shown(panel, rates, limit, found))
            self.assertIs(found.shows(panel, rates, limit), True)

    def test_the_banks_and_the_prices_of_the_panel_do_not_matter(self):
        one = Panel((0, 1, 2), 1, (5, 4, 3), {"000": ("100",), "100": ("000",)})
        other = Panel((1, 0, 0), 1, (2, 1), one.follows)
        for limit in ((1, 3), (1, 2), (1, 1), (2, 1)):
            self.assertEqual(divide(one, (1, 2, 3), limit), divide(other, (1, 2, 3), limit))

    def test_what_is_returned_is_new(self):
        found = divide(cube(), (1, 2, 3), (1, 2))
        found.means[(0, 0, 0)].high.clear()
        self.assertFalse(found.shows(cube(), (1, 2, 3), (1, 2)))
        found.means.clear()
        self.assertTrue(divide(cube(), (1, 2, 3), (1, 2)).shows(cube(), (1, 2, 3), (1, 2)))

    def test_errors_in_order(self):
        for function in (divide, fewest_banks, Divide(None, {}).shows):
            for rest in (((1, 2), (1, 2)), (None, (1, 2)), ((1, 2), None), (None, None)):
                self.panel_refused(function, *rest)
            for rates in NO_RATES:
                for limit in ((1, 2), None, (0, 0)):
                    with self.assertRaises(BadRates):
                        function(example(), rates, limit)
            for limit in NO_LIMITS:
                with self.assertRaises(BadLimit):
                    function(example(), (1, 2), limit)

    def test_rates_and_limits_at_their_least_and_greatest(self):
        for rates in ((1, 1), (5, 5), (1, 5), (5, 1)):
            for limit in ((0, 1), (0, 20), (20, 1), (20, 20)):
                self.assertTrue(divide(example(), rates, limit).shows(example(), rates, limit))


class ShowsTest(DocumentCase):
    def setUp(self):
        # With these rates, three divisions have a mean of 1 or less: (0, 0, 1), (0, 1, 0) and (0, 1, 1).
        self.rates, self.limit = (1, 2, 5), (1, 1)
        self.held = {division: mean(divided(cube(), division, self.rates)) for division in divisions(cube())}
        self.one = self.held[(0, 0, 0)]

    def holds(self, division, means, limit=None, rates=None, panel=None):
        panel, rates, limit = panel or cube(), rates or self.rates, limit or self.limit
        found = Divide(division, means)
        self.assertEqual(found.shows(panel, rates, limit), divide_shown(panel, rates, limit, found))
        return found.shows(panel, rates, limit)

    def means_of(self, *known):
        return {division: self.held[division] for division in known}

    def test_each_division_with_the_fewest_banks(self):
        self.assertEqual(divide(cube(), self.rates, self.limit).division, (0, 0, 1))
        for division in ((0, 0, 1), (0, 1, 0), (0, 1, 1)):
            self.assertIs(self.holds(division, self.means_of((0, 0, 0), division)), True)

    def test_one_with_more_banks(self):
        self.assertFalse(self.holds((0, 1, 2), self.held))
        self.assertFalse(self.holds((0, 1, 2), self.means_of((0, 0, 0), (0, 1, 2))))
        self.assertFalse(self.holds((0, 1, 2), self.means_of((0, 1, 2))))

    def test_one_that_is_too_dear(self):
        self.assertFalse(self.holds((0, 0, 0), self.means_of((0, 0, 0))))
        self.assertTrue(self.holds((0, 0, 0), self.means_of((0, 0, 0)), limit=(5, 2)))
        self.assertFalse(self.holds((0, 0, 1), self.means_of((0, 0, 0), (0, 0, 1)), limit=(19, 20)))
        self.assertFalse(self.holds((0, 0, 1), self.means_of((0, 0, 0), (0, 0, 1)), limit=(5, 2)))

    def test_none(self):
        self.assertTrue(self.holds(None, self.held, limit=(9, 20)))
        self.assertTrue(self.holds(None, backwards(self.held), limit=(0, 1)))
        self.assertFalse(self.holds(None, self.held, limit=(1, 2)))
        self.assertFalse(self.holds(None, self.held))
        for division in self.held:
            some = {other: self.held[other] for other in self.held if other != division}
            self.assertFalse(self.holds(None, some, limit=(9, 20)))
            self.assertFalse(self.holds(division, self.held, limit=(9, 20)))
        self.assertFalse(self.holds(None, {}, limit=(9, 20)))

    def test_dicts_in_any_order(self):
        self.assertTrue(self.holds((0, 1, 0), backwards(self.means_of((0, 0, 0), (0, 1, 0)))))

    def test_means_that_are_missing_or_too_many(self):
        self.assertFalse(self.holds((0, 0, 1), self.means_of((0, 0, 1))))
        self.assertFalse(self.holds((0, 0, 1), self.means_of((0, 0, 0))))
        self.assertFalse(self.holds((0, 0, 1), {}))
        self.assertFalse(self.holds((0, 0, 1), self.held))
        self.assertFalse(self.holds((0, 1, 0), self.means_of((0, 0, 0), (0, 0, 1), (0, 1, 0))))
        self.assertFalse(self.holds((0, 1, 0), self.means_of((0, 0, 0), (0, 0, 1))))

    def test_means_that_are_wrong(self):
        right = self.means_of((0, 0, 0), (0, 0, 1))
        one = self.one
        wrong = [Mean((3, 1), one.answers, one.high, one.pictures, one.low),
                 Mean((10, 4), one.answers, one.high, one.pictures, one.low),
                 Mean(one.mean, {}, one.high, one.pictures, one.low),
                 Mean(one.mean, one.answers, {}, one.pictures, one.low),
                 Mean(one.mean, one.answers, one.high, {}, one.low),
                 Mean(one.mean, one.answers, one.high, one.pictures, {}),
                 self.held[(0, 0, 1)]]
        self.assertTrue(self.holds((0, 0, 1), {**right, (0, 0, 0): one}))
        for held in wrong:
            self.assertFalse(self.holds((0, 0, 1), {**right, (0, 0, 0): held}))
        self.assertFalse(self.holds((0, 0, 1), {**right, (0, 0, 1): self.held[(0, 1, 1)]}))

    def test_other_right_means(self):
        one, states = self.one, list(self.one.high)
        # Heights may all be greater by the same number.
        other = Mean(one.mean, backwards(one.answers), {state: one.high[state] + 7 for state in states[::-1]},
                     backwards(one.pictures), {state: one.low[state] - 3 for state in states})
        self.assertNotEqual(other, one)
        self.assertTrue(self.holds((0, 0, 1), {(0, 0, 0): other, (0, 0, 1): self.held[(0, 0, 1)]}))

    def test_evidence_for_something_else(self):
        found = divide(cube(), self.rates, self.limit)
        self.assertFalse(found.shows(cube(), (1, 2, 3), self.limit))
        self.assertFalse(found.shows(cube(), (1, 1, 5), self.limit))
        self.assertFalse(found.shows(cube(), self.rates, (1, 2)))
        self.assertFalse(found.shows(Panel((0, 0, 0), 2, (1,), cube().follows), self.rates, self.limit))
        self.assertFalse(found.shows(Panel((0, 0, 0), 1, (1,), CUBE), self.rates, self.limit))
        self.assertTrue(found.shows(Panel((0, 1, 0), 1, (4, 4), cube().follows), self.rates, self.limit))
        # Rates of numbers of cells that no bank has do not matter.
        self.assertTrue(divide(cube(), (4, 2, 1), (1, 2)).shows(cube(), (3, 5, 1), (1, 2)))

    def test_evidence_for_a_panel_with_more_or_fewer_cells(self):
        found = divide(example(), (1, 1), (2, 1))
        self.assertFalse(found.shows(cube(), (1, 1, 1), (2, 1)))
        self.assertFalse(divide(cube(), (1, 1, 1), (2, 1)).shows(example(), (1, 1), (2, 1)))
        self.assertFalse(divide(cube(), (5, 5, 5), (0, 1)).shows(example(), (5, 5), (0, 1)))
        self.assertFalse(Divide((0, 0), {}).shows(cube(), (1, 1, 1), (2, 1)))
        self.assertFalse(Divide((0, 0, 0), {}).shows(example(), (1, 1), (2, 1)))

    def test_the_current_attributes_count(self):
        found = divide(cube(), self.rates, self.limit)
        found.division = (0, 1, 2)
        self.assertFalse(found.shows(cube(), self.rates, self.limit))
        found.division = (0, 0, 1)
        found.means[(0, 0, 0)].mean = (2, 1)
        self.assertFalse(found.shows(cube(), self.rates, self.limit))
        found.means[(0, 0, 0)] = self.one
        self.assertTrue(found.shows(cube(), self.rates, self.limit))


class ObjectTest(DocumentCase):
    def test_equality_is_that_of_both_attributes(self):
        found = divide(cube(), (1, 2, 3), (1, 2))
        self.assertIs(found == Divide(found.division, backwards(found.means)), True)
        self.assertNotEqual(found, Divide((0, 1, 0), found.means))
        self.assertNotEqual(found, Divide(None, found.means))
        self.assertNotEqual(found, Divide(found.division, {}))
        self.assertNotEqual(found, divide(cube(), (1, 2, 4), (1, 2)))
        self.assertEqual(found, divide(cube(), (1, 2, 3), (1, 2)))
        self.assertEqual(Divide(None, {}), Divide(None, {}))

    def test_what_is_passed_is_neither_kept_nor_changed(self):
        panel = Panel((0,), 1, (1,), BOTH)
        means = {(0,): mean(panel)}
        found = Divide((0,), means)
        self.assertTrue(found.shows(panel, (1,), (1, 2)))
        self.assertEqual(means, {(0,): mean(panel)})
        means[(0,)].high.clear()
        means[(0,)].mean = (3, 1)
        means.clear()
        self.assertEqual(found, Divide((0,), {(0,): mean(panel)}))
        self.assertTrue(found.shows(panel, (1,), (1, 2)))

    def test_names(self):
        self.names_are_defined_in(module, "divisions", "divided", "divide", "fewest_banks", "Divide")
        self.assertEqual(divisions(panel=example()), [(0, 0), (0, 1)])
        self.assertEqual(divided(rates=(1, 2), division=(0, 0), panel=example()).prices, (2,))
        self.assertEqual(divide(limit=(1, 2), rates=(1, 2, 3), panel=cube()), divide(cube(), (1, 2, 3), (1, 2)))
        self.assertEqual(fewest_banks(limit=(1, 2), rates=(1, 2, 3), panel=cube()), 2)
        found = Divide(means=divide(cube(), (1, 2, 3), (1, 2)).means, division=(0, 1, 1))
        self.assertTrue(found.shows(limit=(1, 2), rates=(1, 2, 3), panel=cube()))


if __name__ == "__main__":
    unittest.main()
