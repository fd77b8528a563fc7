"""Banks that are needed: which sets of banks are enough to keep all ghosts small, and which one is the least."""

from inkghost.games import game, is_within, outcome, outcomes
from inkghost.panels import check_panel
from inkghost.states import check_banks, start


class Holding:
    """States and answers with which ghosts never become too great."""

    def __init__(self, states, answers):
        self.states = list(states)
        self.answers = {pair: answers[pair] for pair in answers}

    def __eq__(self, other):
        return isinstance(other, Holding) and self.states == other.states and self.answers == other.answers

    def shows(self, panel, banks):
        """Tell whether the answers lead from each of the states to these states only."""
        check_banks(panel, banks)
        known = {state: True for state in self.states}
        return start(panel) in known and all([is_held(self, panel, banks, known, state) for state in known])


class Breaking:
    """Pictures with which a ghost becomes too great at last."""

    def __init__(self, plan):
        self.plan = {state: plan[state] for state in plan}

    def __eq__(self, other):
        return isinstance(other, Breaking) and self.plan == other.plan

    def shows(self, panel, banks):
        """Tell whether the pictures lead to lesser and lesser ranks, whatever is flashed."""
        check_banks(panel, banks)
        return start(panel) in self.plan and all([is_broken(self.plan, panel, banks, state) for state in self.plan])


def is_held(found, panel, banks, known, state):
    """Tell whether the answers in a state flash some of these banks, and lead to known states."""
    for picture in panel.follows[state[0]]:
        answer = found.answers.get((state, picture))
        move = outcome(panel, state, picture, answer)
        if move is None or not is_within(answer, banks) or move[1] not in known:
            return False
    return True


def is_broken(plan, panel, banks, state):
    """Tell whether the picture of a state leads to lesser ranks, whichever of these banks are flashed."""
    rank, picture = plan[state]
    if rank < 0 or picture not in panel.follows[state[0]]:
        return False
    for answer, cost, later in outcomes(panel, state, picture):
        if is_within(answer, banks) and (later not in plan or plan[later][0] >= rank):
            return False
    return True


def breaking_picture(pictures, plan):
    """Give the first picture after which each answer leads to a state of the plan, or None."""
    for picture in pictures:
        if all([later in plan for banks, cost, later in pictures[picture]]):
            return picture
    return None


def full_plan(table):
    """Give a rank and a picture for each state from which a ghost becomes too great at last."""
    plan = {}
    rank = 0
    grows = True
    while grows:
        rest = [state for state in table if state not in plan]
        found = {state: breaking_picture(table[state], plan) for state in rest}
        grows = False
        for state in rest:
            if found[state] is not None:
                plan[state] = (rank, found[state])
                grows = True
        rank += 1
    return plan


def held_answer(moves, plan):
    """Give the banks of the first move that leads out of the plan."""
    return [banks for banks, cost, later in moves if later not in plan][0]


def keeping(panel, banks):
    """Give what shows that a set of banks is enough, or that it is not."""
    check_banks(panel, banks)
    first = start(panel)
    table = game(panel, first, banks)
    plan = full_plan(table)
    if first in plan:
        return Breaking(plan)
    held = [state for state in sorted(table) if state not in plan]
    return Holding(
        held,
        {
            (state, picture): held_answer(table[state][picture], plan)
            for state in held
            for picture in table[state]
        },
    )


def can_keep(panel, banks):
    """Tell whether a set of banks is enough."""
    return isinstance(keeping(panel, banks), Holding)


def without(panel, bank):
    """Give the set of all banks but one."""
    return tuple([other for other in range(len(panel.prices)) if other != bank])


def needed(panel):
    """Give the least set of banks that is enough."""
    check_panel(panel)
    # The least set is contained in all others, so it has the banks that all the others together cannot replace.
    return tuple([bank for bank in range(len(panel.prices)) if not can_keep(panel, without(panel, bank))])
