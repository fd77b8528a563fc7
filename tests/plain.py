"""A second, plain account of the points 5 to 10 of the document, to compare the program with."""

import functools
import itertools
import math
from fractions import Fraction

from samples import all_sets, all_states, grown, led_to, must_flash


def first_state(panel):
    return (min(panel.follows), (0,) * len(panel.banks))


def cost_of(panel, banks):
    return sum(panel.prices[bank] for bank in banks)


def possible(panel, state, picture):
    """List the sets of banks that can be flashed."""
    return [banks for banks in all_sets(panel) if must_flash(panel, state, picture) <= set(banks)]


def updates(panel):
    """List all updates as a state, a picture and a set of banks that can be flashed."""
    return [(state, picture, banks) for state in all_states(panel) for picture in panel.follows[state[0]]
            for banks in possible(panel, state, picture)]


def in_lowest_terms(pair):
    return pair[0] >= 0 and pair[1] >= 1 and math.gcd(*pair) == 1


# The mean.

def upper_side_shown(panel, mean, answers, high):
    """Tell whether answers and heights show that a driver need not pay more."""
    total, many = mean
    if first_state(panel) not in high:
        return False
    for state in high:
        for picture in panel.follows[state[0]]:
            if answers.get((state, picture)) not in possible(panel, state, picture):
                return False
            banks = answers[state, picture]
            later = led_to(panel, state, picture, banks)
            if later not in high or high[later] > high[state] + total - many * cost_of(panel, banks):
                return False
    return True


def lower_side_shown(panel, mean, pictures, low):
    """Tell whether pictures and heights show that no driver pays less."""
    total, many = mean
    if first_state(panel) not in low:
        return False
    for state in low:
        if pictures.get(state) not in panel.follows[state[0]]:
            return False
        for banks in possible(panel, state, pictures[state]):
            later = led_to(panel, state, pictures[state], banks)
            if later not in low or low[later] < low[state] + total - many * cost_of(panel, banks):
                return False
    return True


def mean_shown(panel, found):
    return (in_lowest_terms(found.mean) and upper_side_shown(panel, found.mean, found.answers, found.high)
            and lower_side_shown(panel, found.mean, found.pictures, found.low))


def means_of_rounds(steps, first):
    """List the means of all rounds without a place twice, in a dict from places to pairs of a cost and a place."""
    means = []

    def walk(trail, costs):
        for cost, later in steps[trail[-1]]:
            if later in trail:
                part = costs[trail.index(later):] + [cost]
                means.append(Fraction(sum(part), len(part)))
            else:
                walk(trail + [later], costs + [cost])

    walk([first], [])
    return means


def best_mean_by_all_drivers(panel):
    """Give the least mean of all drivers whose answer depends only on the state and the picture."""
    pairs = sorted({(state, picture) for state, picture, _ in updates(panel)})
    best = None
    for chosen in itertools.product(*[possible(panel, *pair) for pair in pairs]):
        answers = dict(zip(pairs, chosen))
        steps = {state: [(cost_of(panel, answers[state, picture]), led_to(panel, state, picture, answers[state, picture]))
                         for picture in panel.follows[state[0]]] for state in all_states(panel)}
        worst = max(means_of_rounds(steps, first_state(panel)))
        best = worst if best is None else min(best, worst)
    return (best.numerator, best.denominator)


def best_mean_by_all_opponents(panel):
    """Give the greatest mean of all opponents whose picture depends only on the state."""
    states = all_states(panel)
    best = None
    for chosen in itertools.product(*[panel.follows[state[0]] for state in states]):
        steps = {state: [(cost_of(panel, banks), led_to(panel, state, picture, banks))
                         for banks in possible(panel, state, picture)] for state, picture in zip(states, chosen)}
        least = min(means_of_rounds(steps, first_state(panel)))
        best = least if best is None else max(best, least)
    return (best.numerator, best.denominator)


# The next pictures.

def coming_costs(panel):
    """Give a function from a state and a number of pictures to the least cost."""
    @functools.lru_cache(maxsize=None)
    def least(state, count):
        if count == 0:
            return 0
        return max(min(cost_of(panel, banks) + least(led_to(panel, state, picture, banks), count - 1)
                       for banks in possible(panel, state, picture)) for picture in panel.follows[state[0]])

    return least


def caps_shown(panel, state, count, found):
    if found.caps.get((count, state), found.cost + 1) > found.cost:
        return False
    for (left, shown), cap in found.caps.items():
        if left == 0 and cap < 0:
            return False
        for picture in panel.follows[shown[0]] if left else ():
            banks = found.answers.get((left, shown, picture))
            if banks not in possible(panel, shown, picture):
                return False
            later = (left - 1, led_to(panel, shown, picture, banks))
            if later not in found.caps or found.caps[later] > cap - cost_of(panel, banks):
                return False
    return True


def floors_shown(panel, state, count, found):
    if found.cost > 0 and found.floors.get((count, state), 0) < found.cost:
        return False
    for (left, shown), floor in found.floors.items():
        if floor > 0:
            picture = found.pictures.get((left, shown))
            if left == 0 or picture not in panel.follows[shown[0]]:
                return False
            for banks in possible(panel, shown, picture):
                rest = floor - cost_of(panel, banks)
                if rest > 0 and found.floors.get((left - 1, led_to(panel, shown, picture, banks)), 0) < rest:
                    return False
    return True


# Banks that are needed.

def can_hold(panel, banks):
    """Tell whether a driver who flashes these banks only has answers for ever."""
    held = set(all_states(panel))
    while True:
        lost = {state for state in held for picture in panel.follows[state[0]]
                if not any(set(answer) <= set(banks) and led_to(panel, state, picture, answer) in held
                           for answer in possible(panel, state, picture))}
        if not lost:
            return first_state(panel) in held
        held -= lost


def holding_shown(panel, banks, found):
    if first_state(panel) not in found.states:
        return False
    for state in found.states:
        for picture in panel.follows[state[0]]:
            answer = found.answers.get((state, picture))
            if answer not in possible(panel, state, picture) or not set(answer) <= set(banks):
                return False
            if led_to(panel, state, picture, answer) not in found.states:
                return False
    return True


def breaking_shown(panel, banks, found):
    if first_state(panel) not in found.plan:
        return False
    for state, (rank, picture) in found.plan.items():
        if rank < 0 or picture not in panel.follows[state[0]]:
            return False
        for answer in possible(panel, state, picture):
            if set(answer) <= set(banks):
                later = led_to(panel, state, picture, answer)
                if later not in found.plan or found.plan[later][0] >= rank:
                    return False
    return True


# Rules.

def rule_flashes(panel, rule, state, picture, memory):
    """Give the set of banks that a rule flashes, cell by cell."""
    due, early = set(), set()
    for bank, ghost in zip(panel.banks, grown(state, picture)):
        if ghost > panel.bound:
            due.add(bank)
        if ghost >= panel.bound:
            early.add(bank)
    chosen = {"due": due, "all": set(panel.banks) if due else set(), "early": early, "turn": due | {memory}}
    return tuple(sorted(chosen[rule]))


def rule_step(panel, rule, seat, picture):
    """Give the banks, and the seat after an update."""
    state, memory = seat
    banks = rule_flashes(panel, rule, state, picture, memory)
    later = (memory + 1) % len(panel.prices) if rule == "turn" else 0
    return banks, (led_to(panel, state, picture, banks), later)


def rule_graph(panel, rule):
    """Give a dict from the seats that can come about to lists of a picture, a cost and the seat after it."""
    graph = {}
    waiting = [(first_state(panel), 0)]
    while waiting:
        seat = waiting.pop()
        if seat not in graph:
            graph[seat] = []
            for picture in panel.follows[seat[0][0]]:
                banks, later = rule_step(panel, rule, seat, picture)
                graph[seat].append((picture, cost_of(panel, banks), later))
                waiting.append(later)
    return graph


def greatest_mean(panel, rule):
    """Give the greatest mean of a round as Karp found: by the greatest costs of walks of each length."""
    graph = rule_graph(panel, rule)
    rows = [{(first_state(panel), 0): 0}]
    for _ in graph:
        row = {}
        for seat, total in rows[-1].items():
            for _, cost, later in graph[seat]:
                row[later] = max(row.get(later, 0), total + cost)
        rows.append(row)
    last = len(graph)
    best = max(min(Fraction(total - rows[length][seat], last - length) for length in range(last) if seat in rows[length])
               for seat, total in rows[last].items())
    return (best.numerator, best.denominator)


def worst_shown(panel, rule, found):
    if not in_lowest_terms(found.mean) or (first_state(panel), 0) not in found.heights or not found.turn:
        return False
    seat = (first_state(panel), 0)
    spent = []
    seats = [seat]
    for picture in [*found.road, *found.turn]:
        if picture not in panel.follows[seats[-1][0][0]]:
            return False
        banks, later = rule_step(panel, rule, seats[-1], picture)
        spent.append(cost_of(panel, banks))
        seats.append(later)
    if seats[len(found.road)] != seats[-1]:
        return False
    total, many = found.mean
    if Fraction(sum(spent[len(found.road):]), len(found.turn)) != Fraction(total, many):
        return False
    for seat in found.heights:
        for picture in panel.follows[seat[0][0]]:
            banks, later = rule_step(panel, rule, seat, picture)
            bound = found.heights[seat] + total - many * cost_of(panel, banks)
            if later not in found.heights or found.heights[later] > bound:
                return False
    return True


def all_roads(panel, length):
    """List all roads of a length, in order."""
    roads = [[]]
    for _ in range(length):
        roads = [road + [picture] for road in roads
                 for picture in panel.follows[road[-1] if road else min(panel.follows)]]
    return roads


def sets_on(panel, rule, road):
    """List the sets that a rule flashes on a road."""
    seat, sets = (first_state(panel), 0), []
    for picture in road:
        banks, seat = rule_step(panel, rule, seat, picture)
        sets.append(banks)
    return sets


def first_difference(panel, one, other, longest):
    """Give the first road at whose end two rules flash different banks, None if none is so short."""
    for length in range(1, longest + 1):
        for road in all_roads(panel, length):
            if sets_on(panel, one, road) != sets_on(panel, other, road):
                return road
    return None


def alike_shown(panel, one, other, found):
    known = set(found.triples)
    if (first_state(panel), 0, 0) not in known:
        return False
    for state, first, second in known:
        for picture in panel.follows[state[0]]:
            banks, (later, first_later) = rule_step(panel, one, (state, first), picture)
            others, (_, second_later) = rule_step(panel, other, (state, second), picture)
            if banks != others or (later, first_later, second_later) not in known:
                return False
    return True
