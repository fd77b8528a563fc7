"""Steps, which are updates and rests: the sets that can be flashed, what they cost, and where they lead."""

from inkghost.states import ghosts_after, is_bank_set, possible_sets, price

REST = "rest"


def is_item(panel, shown, item):
    """Tell whether a value is a rest, or a picture that can follow the one that is shown."""
    return isinstance(item, str) and (item == REST or item in panel.follows[shown])


def shown_after(shown, item):
    """Give the picture that is shown after an item."""
    if item == REST:
        return shown
    return item


def sets_at(panel, state, item):
    """Give the sets of banks that can be flashed at an item, in order."""
    # A rest changes no cell, so it is possible with the sets of an update that changes none: all sets.
    return possible_sets(panel, state, shown_after(state[0], item))


def can_flash(panel, state, item, banks):
    """Tell whether a value is a set of banks that can be flashed at an item."""
    return is_bank_set(panel, banks) and banks in sets_at(panel, state, item)


def cost_at(panel, item, banks):
    """Give what flashing some banks costs at an item."""
    if item == REST:
        return len(banks)
    return price(panel, banks)


def state_at(panel, state, item, banks):
    """Give the state after an item at which some banks are flashed."""
    shown = shown_after(state[0], item)
    return (shown, ghosts_after(panel, state, shown, banks))


def moves_at(panel, state, item):
    """Give each set of banks that can be flashed at an item, with its cost and the state after it."""
    return [
        (banks, cost_at(panel, item, banks), state_at(panel, state, item, banks))
        for banks in sets_at(panel, state, item)
    ]
