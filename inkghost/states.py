"""States of a panel: the picture that is shown with the ghosts of the cells, and how updates change them."""

from inkghost.checks import is_ascending, is_integer
from inkghost.errors import BadBanks, BadPicture, BadState
from inkghost.panels import check_panel


def is_state(panel, state):
    """Tell whether a value is a state of the panel."""
    if not isinstance(state, tuple) or len(state) != 2:
        return False
    shown, ghosts = state
    if not isinstance(shown, str) or shown not in panel.follows:
        return False
    if not isinstance(ghosts, tuple) or len(ghosts) != len(panel.banks):
        return False
    return all([is_integer(ghost, 0, panel.bound) for ghost in ghosts])


def check_state(panel, state):
    """Refuse what is not a panel, then what is not a state of it."""
    check_panel(panel)
    if not is_state(panel, state):
        raise BadState("not a state of the panel")


def check_picture(panel, state, picture):
    """Refuse what is not a panel, then what is not a state of it, then what cannot follow."""
    check_state(panel, state)
    if not isinstance(picture, str) or picture not in panel.follows[state[0]]:
        raise BadPicture("not a picture that can follow")


def is_bank_set(panel, banks):
    """Tell whether a value is a set of banks of the panel."""
    if not isinstance(banks, tuple):
        return False
    if not all([is_integer(bank, 0, len(panel.prices) - 1) for bank in banks]):
        return False
    return is_ascending(banks)


def check_banks(panel, banks):
    """Refuse what is not a panel, then what is not a set of banks of it."""
    check_panel(panel)
    if not is_bank_set(panel, banks):
        raise BadBanks("not a set of banks of the panel")


def bank_sets(panel):
    """Give all sets of banks of the panel, in order."""
    found = [()]
    for bank in range(len(panel.prices)):
        found = found + [(*banks, bank) for banks in found]
    return sorted(found, key=lambda chosen: (len(chosen), chosen))


def ghosts_after(panel, state, picture, banks):
    """Give the ghosts after an update, also if one of them becomes too great."""
    shown, ghosts = state
    later = []
    for cell, bank in enumerate(panel.banks):
        if bank in banks:
            later.append(0)
        elif shown[cell] != picture[cell]:
            later.append(ghosts[cell] + 1)
        else:
            later.append(ghosts[cell])
    return tuple(later)


def possible_sets(panel, state, picture):
    """Give the sets of banks whose flash leaves no ghost too great, in order."""
    return [
        banks for banks in bank_sets(panel) if max(ghosts_after(panel, state, picture, banks)) <= panel.bound
    ]


def check_update(panel, state, picture, banks):
    """Refuse what is not a panel, a state of it, a picture that can follow, or banks for it, in this order."""
    check_picture(panel, state, picture)
    if not is_bank_set(panel, banks) or banks not in possible_sets(panel, state, picture):
        raise BadBanks("not a set of banks that can be flashed then")


def states_after(panel, state):
    """Give the states to which one update can lead, some of them perhaps several times."""
    return [
        (picture, ghosts_after(panel, state, picture, banks))
        for picture in panel.follows[state[0]]
        for banks in possible_sets(panel, state, picture)
    ]


def start(panel):
    """Give the state at the beginning."""
    check_panel(panel)
    return (min(panel.follows), (0,) * len(panel.banks))


def states(panel):
    """Give the ascending list of all states that can come about from the beginning on."""
    first = start(panel)
    found = {first: True}
    waiting = [first]
    while waiting:
        state = waiting.pop()
        for later in states_after(panel, state):
            if later not in found:
                found[later] = True
                waiting.append(later)
    return sorted(found)


def choices(panel, state, picture):
    """Give the list of the sets of banks that can be flashed when a picture comes, in order."""
    check_picture(panel, state, picture)
    return possible_sets(panel, state, picture)


def after(panel, state, picture, banks):
    """Give the state after an update."""
    check_update(panel, state, picture, banks)
    return (picture, ghosts_after(panel, state, picture, banks))


def price(panel, banks):
    """Give what flashing some banks costs."""
    check_banks(panel, banks)
    return sum([panel.prices[bank] for bank in banks])
