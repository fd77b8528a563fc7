"""The game of the driver and the opponent: the answers to each picture, what they cost, and where they lead."""

from inkghost.states import ghosts_after, possible_sets, price


def outcomes(panel, state, picture):
    """Give each set of banks that can be flashed when a picture comes, with its cost and the state after it."""
    return [
        (banks, price(panel, banks), (picture, ghosts_after(panel, state, picture, banks)))
        for banks in possible_sets(panel, state, picture)
    ]


def outcome(panel, state, picture, banks):
    """Give the cost of an answer and the state after it, or None if the answer cannot be given."""
    if banks not in possible_sets(panel, state, picture):
        return None
    return (price(panel, banks), (picture, ghosts_after(panel, state, picture, banks)))


def is_within(banks, allowed):
    """Tell whether each of some banks is one of those that are allowed."""
    return all([bank in allowed for bank in banks])


def game(panel, first, allowed):
    """Give the outcomes for each picture, in each state that can come about from the first one on.

    Only the banks that are allowed are flashed. The first state is the first key.
    """
    found = {}
    waiting = [first]
    while waiting:
        state = waiting.pop()
        if state not in found:
            found[state] = {}
            for picture in panel.follows[state[0]]:
                moves = [move for move in outcomes(panel, state, picture) if is_within(move[0], allowed)]
                found[state][picture] = moves
                waiting.extend([later for banks, cost, later in moves])
    return found


def every_bank(panel):
    """Give the set of all banks of the panel."""
    return tuple(range(len(panel.prices)))


def least_sum(moves, worth, scale):
    """Give the least sum of the cost of a move, multiplied by the scale, and the worth of the state after it."""
    return min([scale * cost + worth[later] for banks, cost, later in moves])


def best_answer(moves, worth, scale):
    """Give the banks of the first move with the least sum."""
    least = least_sum(moves, worth, scale)
    return [banks for banks, cost, later in moves if scale * cost + worth[later] == least][0]


def worst_picture(pictures, worth, scale):
    """Give the first picture for which the least sum is the greatest."""
    sums = {picture: least_sum(pictures[picture], worth, scale) for picture in pictures}
    greatest = max(sums.values())
    return [picture for picture in sums if sums[picture] == greatest][0]
