"""Panels: cells in banks, the greatest ghost, the prices of flashes, and the pictures that can come."""

from inkghost.checks import is_ascending, is_integer, is_picture
from inkghost.errors import BadPanel

MOST_CELLS = 3
MOST_BOUND = 4
MOST_GHOSTS = 27
MOST_PRICE = 5
MOST_PICTURES = 5


def are_banks(banks):
    """Tell whether a value is a tuple of the bank of each cell, without a gap below the greatest bank."""
    if not isinstance(banks, tuple) or not 1 <= len(banks) <= MOST_CELLS:
        return False
    if not all([is_integer(bank, 0, len(banks) - 1) for bank in banks]):
        return False
    return len(set(banks)) == max(banks) + 1


def count_ghosts(bound, cells):
    """Count the ways for the ghosts of all cells."""
    ways = 1
    for cell in range(cells):
        ways = ways * (bound + 1)
    return ways


def is_bound(bound, cells):
    """Tell whether a value can be the greatest ghost of so many cells."""
    return is_integer(bound, 1, MOST_BOUND) and count_ghosts(bound, cells) <= MOST_GHOSTS


def are_prices(prices, many):
    """Tell whether a value is a tuple with the price of each of so many banks."""
    if not isinstance(prices, tuple) or len(prices) != many:
        return False
    return all([is_integer(price, 1, MOST_PRICE) for price in prices])


def can_follow(pictures, known):
    """Tell whether a value is an ascending tuple of known pictures."""
    if not isinstance(pictures, tuple):
        return False
    # Only strings are looked up and compared: other items may be refused by that.
    if not all([isinstance(picture, str) and picture in known for picture in pictures]):
        return False
    return is_ascending(pictures)


def reached(follows, first):
    """Give the pictures that can be reached from the first one in one or more steps."""
    found = []
    waiting = [first]
    while waiting:
        shown = waiting.pop()
        for picture in follows[shown]:
            if picture not in found:
                found.append(picture)
                waiting.append(picture)
    return found


def are_follows(follows, cells):
    """Tell whether a value is a dict of the pictures that follow, in which each one leads to all."""
    if not isinstance(follows, dict) or not 1 <= len(follows) <= MOST_PICTURES:
        return False
    if not all([is_picture(picture, cells) for picture in follows]):
        return False
    if not all([can_follow(follows[picture], follows) for picture in follows]):
        return False
    # A picture that nothing follows leads to none, so an empty tuple is refused here.
    return all([len(reached(follows, picture)) == len(follows) for picture in follows])


class Panel:
    """A panel, which never changes."""

    def __init__(self, banks, bound, prices, follows):
        if not are_banks(banks):
            raise BadPanel("BANKS")
        if not is_bound(bound, len(banks)):
            raise BadPanel("BOUND")
        if not are_prices(prices, max(banks) + 1):
            raise BadPanel("PRICES")
        if not are_follows(follows, len(banks)):
            raise BadPanel("FOLLOWS")
        self.own_banks = banks
        self.own_bound = bound
        self.own_prices = prices
        self.own_follows = {picture: follows[picture] for picture in sorted(follows)}

    def __eq__(self, other):
        return (
            isinstance(other, Panel)
            and self.own_banks == other.own_banks
            and self.own_bound == other.own_bound
            and self.own_prices == other.own_prices
            and self.own_follows == other.own_follows
        )

    @property
    def banks(self):
        """The bank of each cell."""
        return self.own_banks

    @property
    def bound(self):
        """The greatest ghost that a cell may have."""
        return self.own_bound

    @property
    def prices(self):
        """The price of a flash of each bank."""
        return self.own_prices

    @property
    def follows(self):
        """A new dict from the pictures, ascending, to those that can follow."""
        return {picture: self.own_follows[picture] for picture in self.own_follows}


def check_panel(panel):
    """Refuse what is not a panel."""
    if not isinstance(panel, Panel):
        raise BadPanel(None)
