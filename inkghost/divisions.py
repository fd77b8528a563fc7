"""Divisions of the cells of a panel into banks, and the first one that is cheap enough for ever."""

from inkghost.checks import is_integer
from inkghost.errors import BadDivision, BadLimit, BadRates
from inkghost.means import Mean, mean
from inkghost.panels import Panel, check_panel

MOST_RATE = 5
MOST_LIMIT = 20


class Divide:
    """A division that is cheap enough, or None, and the means of it and of those with fewer banks."""

    def __init__(self, division, means):
        self.division = division
        self.means = {other: copied(means[other]) for other in means}

    def __eq__(self, other):
        return isinstance(other, Divide) and self.division == other.division and self.means == other.means

    def shows(self, panel, rates, limit):
        """Tell whether the division is cheap enough, and the means show this, and that no fewer banks are enough."""
        check_limit(panel, rates, limit)
        known = divisions(panel)
        if self.division is not None and self.division not in known:
            return False
        asked = those_asked(known, self.division)
        if len(self.means) != len(asked) or not all([division in self.means for division in asked]):
            return False
        return all([is_shown(self, panel, rates, limit, division) for division in asked])


def copied(found):
    """Give an equal Mean, which stays as it is when the one that is passed is changed."""
    return Mean(found.mean, found.answers, found.high, found.pictures, found.low)


def is_shown(found, panel, rates, limit, division):
    """Tell whether the mean of a division is the least one, and within the limit only for the division found."""
    held = found.means[division]
    if not held.shows(panel_of(panel, division, rates)):
        return False
    return is_within(held.mean, limit) == (division == found.division)


def is_within(pair, limit):
    """Tell whether a mean is at most a limit."""
    return pair[0] * limit[1] <= limit[0] * pair[1]


def those_asked(known, division):
    """Give, of all divisions in order, one and those with fewer banks, or all if the one is None."""
    if division is None:
        return known
    return [other for other in known if max(other) < max(division) or other == division]


def is_division(panel, division):
    """Tell whether a value is a division of the cells of a panel."""
    if not isinstance(division, tuple) or not all([is_integer(bank, 0, len(division) - 1) for bank in division]):
        return False
    return division in divisions(panel)


def check_rates(panel, rates):
    """Refuse what is not rates for the cells of a panel."""
    if not isinstance(rates, tuple) or len(rates) != len(panel.banks):
        raise BadRates("not a rate for each number of cells")
    if not all([is_integer(rate, 1, MOST_RATE) for rate in rates]):
        raise BadRates("a rate is not an integer from 1 to 5")


def check_limit(panel, rates, limit):
    """Refuse what is not a panel, then what is not rates for it, then what is not a limit."""
    check_panel(panel)
    check_rates(panel, rates)
    if not isinstance(limit, tuple) or len(limit) != 2:
        raise BadLimit("not a pair")
    if not is_integer(limit[0], 0, MOST_LIMIT) or not is_integer(limit[1], 1, MOST_LIMIT):
        raise BadLimit("not integers from 0 to 20 and from 1 to 20")


def panel_of(panel, division, rates):
    """Give the panel of a division."""
    prices = [rates[division.count(bank) - 1] for bank in range(max(division) + 1)]
    return Panel(division, panel.bound, tuple(prices), panel.follows)


def divisions(panel):
    """Give the list of all divisions of the cells of a panel, in order."""
    check_panel(panel)
    found = [(0,)]
    while len(found[0]) < len(panel.banks):
        # A cell is in a bank that has occurred, or in the next one.
        found = [(*banks, bank) for banks in found for bank in range(max(banks) + 2)]
    return sorted(found, key=lambda division: (max(division), division))


def divided(panel, division, rates):
    """Give the panel of a division with these rates."""
    check_panel(panel)
    if not is_division(panel, division):
        raise BadDivision("not a division of the cells")
    check_rates(panel, rates)
    return panel_of(panel, division, rates)


def divide(panel, rates, limit):
    """Give the first division that is cheap enough, with what shows this."""
    check_limit(panel, rates, limit)
    known = divisions(panel)
    means = {}
    for division in known:
        means[division] = mean(panel_of(panel, division, rates))
        if is_within(means[division].mean, limit):
            return Divide(division, {other: means[other] for other in those_asked(known, division)})
    return Divide(None, means)


def fewest_banks(panel, rates, limit):
    """Give the least number of banks that is cheap enough, or None."""
    division = divide(panel, rates, limit).division
    if division is None:
        return None
    return max(division) + 1
