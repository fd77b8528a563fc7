"""Panels and wrong values that several tests use, and a second, plain account of what the document says."""

import random

from inkghost.panels import Panel

BOTH = {"0": ("0", "1"), "1": ("0", "1")}
FLIP = {"0": ("1",), "1": ("0",)}
THREE = {"00": ("11",), "11": ("00", "01"), "01": ("00",)}
CUBE = {"000": ("000", "011", "111"), "011": ("100",), "100": ("000", "111"), "111": ("011",)}


class Agreeable:
    """An object that says that it is equal to all others."""

    def __eq__(self, other):
        return True

    def __hash__(self):
        return hash("11")


# Nothing here is a tuple, a string, an integer, a dict or a panel.
STRANGE = [None, True, False, b"", b"00", [], [0], [(0,)], {0}, frozenset([0]), object(), int, len, range(2),
           Agreeable()]


def example():
    """Make the panel of the examples in the document."""
    return Panel((0, 1), 1, (2, 3), dict(THREE))


def samples():
    """Make panels with one, two and three cells, with the least and the greatest bounds and prices."""
    return [
        example(),
        Panel((0,), 1, (1,), dict(BOTH)),
        Panel((0,), 4, (5,), dict(FLIP)),
        Panel((0,), 2, (3,), {"1": ("1",)}),
        Panel((0, 0), 4, (5,), {"10": ("10", "11"), "11": ("10",)}),
        Panel((1, 0), 3, (1, 5), dict(THREE)),
        Panel((0, 0, 0), 2, (4,), dict(CUBE)),
        Panel((1, 0, 1), 2, (2, 4), dict(CUBE)),
        Panel((2, 0, 1), 1, (1, 2, 3), dict(CUBE)),
        Panel((0, 1, 2), 2, (5, 1, 5), {"000": ("001",), "001": ("010",), "010": ("011",), "011": ("100",),
                                        "100": ("000", "011")}),
    ]


def random_panel(source, cells):
    """Make a panel of so many cells, with banks, bound, prices and pictures by chance."""
    banks = [source.randrange(cells) for _ in range(cells)]
    banks = tuple(sorted(set(banks)).index(bank) for bank in banks)
    bound = source.choice([bound for bound in (1, 2, 3, 4) if (bound + 1) ** cells <= 27])
    prices = tuple(source.randint(1, 5) for _ in set(banks))
    pictures = [format(number, f"0{cells}b") for number in range(2 ** cells)]
    pictures = source.sample(pictures, source.randint(1, min(5, len(pictures))))
    # The next picture in the list always follows, so that each one can be reached.
    follows = {}
    for at, picture in enumerate(pictures):
        more = [other for other in pictures if source.random() < 0.3]
        follows[picture] = tuple(sorted({pictures[at - 1], *more}))
    return Panel(banks, bound, prices, follows)


def random_panels(seed, many):
    """Make panels with one, two and three cells by chance, the same ones at each run."""
    source = random.Random(seed)
    return [random_panel(source, number % 3 + 1) for number in range(many)]


def all_sets(panel):
    """List the sets of banks in order, one size after the other."""
    many = len(panel.prices)
    singles = [(bank,) for bank in range(many)]
    pairs = [(one, two) for one in range(many) for two in range(one + 1, many)]
    return [()] + singles + pairs + ([(0, 1, 2)] if many == 3 else [])


def all_states(panel):
    """List all states of a panel, also those that cannot come about."""
    found = [((), picture) for picture in panel.follows]
    for _ in panel.banks:
        found = [(ghosts + (ghost,), picture) for ghosts, picture in found for ghost in range(panel.bound + 1)]
    return sorted((picture, ghosts) for ghosts, picture in found)


def grown(state, picture):
    """Give the ghosts after an update without any flash."""
    return [ghost + (old != new) for old, new, ghost in zip(state[0], picture, state[1])]


def must_flash(panel, state, picture):
    """Give the banks of the cells whose ghosts would be too great without a flash."""
    return {bank for bank, ghost in zip(panel.banks, grown(state, picture)) if ghost > panel.bound}


def led_to(panel, state, picture, banks):
    """Give the state after an update."""
    ghosts = [0 if bank in banks else ghost for bank, ghost in zip(panel.banks, grown(state, picture))]
    return (picture, tuple(ghosts))
