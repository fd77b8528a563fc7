"""The least cost of the next pictures, with what shows that it is enough and that nothing less is."""

from inkghost.checks import is_integer
from inkghost.errors import BadCount
from inkghost.games import best_answer, every_bank, game, least_sum, outcome, outcomes, worst_picture
from inkghost.states import check_state

MOST_COMING = 6


class Coming:
    """A cost: caps with answers of the driver, and floors with pictures of the opponent."""

    def __init__(self, cost, caps, answers, floors, pictures):
        self.cost = cost
        self.caps = {spot: caps[spot] for spot in caps}
        self.answers = {triple: answers[triple] for triple in answers}
        self.floors = {spot: floors[spot] for spot in floors}
        self.pictures = {spot: pictures[spot] for spot in pictures}

    def __eq__(self, other):
        return (
            isinstance(other, Coming)
            and self.cost == other.cost
            and self.caps == other.caps
            and self.answers == other.answers
            and self.floors == other.floors
            and self.pictures == other.pictures
        )

    def shows(self, panel, state, count):
        """Tell whether the cost is the least one for so many pictures, and the dicts show it."""
        check_count(panel, state, count)
        first = (count, state)
        if first not in self.caps or self.caps[first] > self.cost:
            return False
        if self.cost > 0 and (first not in self.floors or self.floors[first] < self.cost):
            return False
        return all([is_enough(self, panel, spot) for spot in self.caps]) and all(
            [is_forced(self, panel, spot) for spot in self.floors if self.floors[spot] > 0]
        )


def check_count(panel, state, count):
    """Refuse what is not a panel, then what is not a state of it, then what is not a number of pictures."""
    check_state(panel, state)
    if not is_integer(count, 0, MOST_COMING):
        raise BadCount("not an integer from 0 to 6")


def is_enough(found, panel, spot):
    """Tell whether the answers at a spot lead to caps that are small enough, whatever picture comes."""
    left, state = spot
    if left == 0:
        return found.caps[spot] >= 0
    for picture in panel.follows[state[0]]:
        move = outcome(panel, state, picture, found.answers.get((left, state, picture)))
        if move is None:
            return False
        cost, later = move
        after_it = (left - 1, later)
        if after_it not in found.caps or found.caps[after_it] > found.caps[spot] - cost:
            return False
    return True


def is_forced(found, panel, spot):
    """Tell whether the picture at a spot leads to floors that are great enough, whatever is flashed."""
    left, state = spot
    picture = found.pictures.get(spot)
    if left == 0 or picture not in panel.follows[state[0]]:
        return False
    for banks, cost, later in outcomes(panel, state, picture):
        rest = found.floors[spot] - cost
        after_it = (left - 1, later)
        if rest > 0 and (after_it not in found.floors or found.floors[after_it] < rest):
            return False
    return True


def costs_ahead(table, count):
    """Give a list of dicts from states to costs: those for no picture, for one, and so on."""
    rows = [{state: 0 for state in table}]
    for left in range(1, count + 1):
        before = rows[left - 1]
        rows.append(
            {
                state: max([least_sum(moves, before, 1) for moves in table[state].values()])
                for state in table
            }
        )
    return rows


def coming(panel, state, count):
    """Give the least cost of so many pictures from a state on, with what shows it."""
    check_count(panel, state, count)
    table = game(panel, state, every_bank(panel))
    rows = costs_ahead(table, count)
    caps = {(left, shown): row[shown] for left, row in enumerate(rows) for shown in table}
    answers = {
        (left, shown, picture): best_answer(table[shown][picture], rows[left - 1], 1)
        for left in range(1, count + 1)
        for shown in table
        for picture in table[shown]
    }
    pictures = {
        (left, shown): worst_picture(table[shown], rows[left - 1], 1)
        for left in range(1, count + 1)
        for shown in table
    }
    # A least cost is both a cap and a floor.
    return Coming(rows[count][state], caps, answers, caps, pictures)


def coming_cost(panel, state, count):
    """Give the least cost of so many pictures from a state on."""
    return coming(panel, state, count).cost
