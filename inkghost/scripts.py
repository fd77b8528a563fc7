"""Scripts: pictures and rests that are known ahead, what is best for them, and what shows that nothing costs less."""

from inkghost.errors import BadScript, BadSets
from inkghost.games import best_answer, least_sum
from inkghost.states import check_state
from inkghost.steps import can_flash, cost_at, is_item, moves_at, shown_after, state_at

MOST_ITEMS = 8


class Plan:
    """Sets of banks for the items of a script, and floors of what the items that are left cost."""

    def __init__(self, sets, floors):
        self.sets = list(sets)
        self.floors = {spot: floors[spot] for spot in floors}

    def __eq__(self, other):
        return isinstance(other, Plan) and self.sets == other.sets and self.floors == other.floors

    def shows(self, panel, state, script):
        """Tell whether the sets can be flashed, and the floors show that nothing costs less."""
        check_script(panel, state, script)
        if len(self.sets) != len(script) or first_wrong(panel, state, script, self.sets) is not None:
            return False
        cost = sum_of(panel, script, self.sets)
        # A floor of 0 says as little as none.
        if cost > 0 and self.floors.get((0, state), 0) < cost:
            return False
        return all([is_forced(self.floors, panel, script, spot) for spot in self.floors if self.floors[spot] > 0])


def check_script(panel, state, script):
    """Refuse what is not a panel, then what is not a state of it, then what is not a script for it."""
    check_state(panel, state)
    if not isinstance(script, (list, tuple)) or not 1 <= len(script) <= MOST_ITEMS:
        raise BadScript(None)
    shown = state[0]
    for index, item in enumerate(script):
        if not is_item(panel, shown, item):
            raise BadScript(index)
        shown = shown_after(shown, item)


def first_wrong(panel, state, script, sets):
    """Give the index of the first value that is not a set that can be flashed then, or None."""
    for index, banks in enumerate(sets):
        if not can_flash(panel, state, script[index], banks):
            return index
        state = state_at(panel, state, script[index], banks)
    return None


def check_sets(panel, state, script, sets):
    """Refuse what is not a panel, a state of it, a script for it, or sets for the script, in this order."""
    check_script(panel, state, script)
    if not isinstance(sets, (list, tuple)) or len(sets) != len(script):
        raise BadSets(None)
    index = first_wrong(panel, state, script, sets)
    if index is not None:
        raise BadSets(index)


def sum_of(panel, script, sets):
    """Give what sets of banks cost together, one for each item."""
    return sum([cost_at(panel, item, banks) for item, banks in zip(script, sets)])


def is_forced(floors, panel, script, spot):
    """Tell whether all that can be flashed at a spot leads to floors that are great enough."""
    number, state = spot
    if number >= len(script):
        return False
    for banks, cost, later in moves_at(panel, state, script[number]):
        left = floors[spot] - cost
        if left > 0 and floors.get((number + 1, later), 0) < left:
            return False
    return True


def moves_of(panel, state, script):
    """Give a list of dicts, one for each item, from the states that can come about before it to the moves."""
    rows = []
    reached = [state]
    for item in script:
        row = {before: moves_at(panel, before, item) for before in reached}
        rows.append(row)
        reached = sorted(set([later for moves in row.values() for banks, cost, later in moves]))
    return rows


def costs_left(rows):
    """Give a list of dicts from states to the least costs of the items that are left, none of them at last."""
    found = [{later: 0 for moves in rows[-1].values() for banks, cost, later in moves}]
    for row in rows[::-1]:
        ahead = found[-1]
        found.append({state: least_sum(row[state], ahead, 1) for state in row})
    return found[::-1]


def plan(panel, state, script):
    """Give the sets that cost as little as possible, with what shows that nothing costs less."""
    check_script(panel, state, script)
    rows = moves_of(panel, state, script)
    costs = costs_left(rows)
    sets = []
    before = state
    for number, item in enumerate(script):
        banks = best_answer(rows[number][before], costs[number + 1], 1)
        sets.append(banks)
        before = state_at(panel, before, item, banks)
    return Plan(sets, {(number, spot): row[spot] for number, row in enumerate(costs) for spot in row})


def least_cost(panel, state, script):
    """Give the least cost of a script."""
    return sum_of(panel, script, plan(panel, state, script).sets)


def cost_with(panel, state, script, sets):
    """Give what some sets cost together, one for each item of a script."""
    check_sets(panel, state, script, sets)
    return sum_of(panel, script, sets)
