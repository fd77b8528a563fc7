"""The least mean cost of an update for ever, with what shows that it can be kept and that nothing less can."""

from inkghost.games import best_answer, every_bank, game, outcome, outcomes, worst_picture
from inkghost.panels import check_panel
from inkghost.ratios import is_mean, lowest
from inkghost.states import start


class Mean:
    """A mean cost: answers with heights of the driver, and pictures with heights of the opponent."""

    def __init__(self, mean, answers, high, pictures, low):
        self.mean = mean
        self.answers = {pair: answers[pair] for pair in answers}
        self.high = {state: high[state] for state in high}
        self.pictures = {state: pictures[state] for state in pictures}
        self.low = {state: low[state] for state in low}

    def __eq__(self, other):
        return (
            isinstance(other, Mean)
            and self.mean == other.mean
            and self.answers == other.answers
            and self.high == other.high
            and self.pictures == other.pictures
            and self.low == other.low
        )

    def shows(self, panel):
        """Tell whether the mean is the least one of the panel, and the dicts show it."""
        check_panel(panel)
        first = start(panel)
        if not is_mean(self.mean) or first not in self.high or first not in self.low:
            return False
        return all([is_kept(self, panel, state) for state in self.high]) and all(
            [is_forced(self, panel, state) for state in self.low]
        )


def is_kept(found, panel, state):
    """Tell whether the answers in a state lead to heights that are small enough, whatever picture comes."""
    total, many = found.mean
    for picture in panel.follows[state[0]]:
        move = outcome(panel, state, picture, found.answers.get((state, picture)))
        if move is None:
            return False
        cost, later = move
        if later not in found.high or found.high[later] > found.high[state] + total - many * cost:
            return False
    return True


def is_forced(found, panel, state):
    """Tell whether the picture of a state leads to heights that are great enough, whatever is flashed."""
    total, many = found.mean
    picture = found.pictures.get(state)
    if picture not in panel.follows[state[0]]:
        return False
    for banks, cost, later in outcomes(panel, state, picture):
        if later not in found.low or found.low[later] < found.low[state] + total - many * cost:
            return False
    return True


def numbered(table):
    """Give the costs and the places of the states after each move, as a list in the order of the table."""
    places = {state: place for place, state in enumerate(table)}
    return [
        [[(cost, places[later]) for banks, cost, later in moves] for moves in table[state].values()]
        for state in table
    ]


def one_more(rows, costs):
    """Give what one update more costs from each place on, with the best answers to the worst pictures."""
    return [max([min([cost + costs[later] for cost, later in moves]) for moves in row]) for row in rows]


def course(rows):
    """Give what more and more updates cost from each place on, from one time to a later one that is like it.

    At the last time, all costs are greater by the same number than at the first time.
    """
    # Flashing all banks once, or the way to any picture, costs no more than a fixed number. So the costs of two places
    # never differ by more than that, and at some time all differences have been there before.
    past = [[0 for row in rows]]
    times = {}
    while True:
        differences = tuple([cost - past[-1][0] for cost in past[-1]])
        if differences in times:
            return past[times[differences]:]
        times[differences] = len(past) - 1
        past.append(one_more(rows, past[-1]))


def mean(panel):
    """Give the least mean cost of an update, with what shows it."""
    check_panel(panel)
    table = game(panel, start(panel), every_bank(panel))
    times = course(numbered(table))
    total, many = lowest(times[-1][0] - times[0][0], len(times) - 1)
    high = {}
    low = {}
    for place, state in enumerate(table):
        # One update leads from the heights of a time to those of the next one, and from the last to the first. The
        # least of them are therefore good enough for the driver at all times, and the greatest for the opponent.
        heights = [many * costs[place] - total * number for number, costs in enumerate(times)]
        high[state] = min(heights)
        low[state] = max(heights)
    answers = {
        (state, picture): best_answer(table[state][picture], high, many)
        for state in table
        for picture in table[state]
    }
    pictures = {state: worst_picture(table[state], low, many) for state in table}
    return Mean((total, many), answers, high, pictures, low)


def least_mean(panel):
    """Give the least mean cost of an update."""
    return mean(panel).mean
