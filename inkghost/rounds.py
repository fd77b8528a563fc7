"""Rounds in graphs of seats: dicts from each seat to a dict from pictures to pairs of a cost and the seat after it."""

from inkghost.ratios import lowest


def trail_to(graph, first, last):
    """Give a shortest list of pictures from one seat to another one."""
    trails = {first: []}
    waiting = [first]
    while last not in trails:
        reached = []
        for seat in waiting:
            for picture in graph[seat]:
                later = graph[seat][picture][1]
                if later not in trails:
                    trails[later] = [*trails[seat], picture]
                    reached.append(later)
        waiting = reached
    return trails[last]


def closed(graph, steps):
    """Give the seats of a round, if pictures of a dict from seats to pictures make one, otherwise None."""
    passed = {}
    for first in steps:
        trail = []
        seat = first
        while seat in steps and seat not in passed:
            passed[seat] = first
            trail.append(seat)
            seat = graph[seat][steps[seat]][1]
        if seat in passed and passed[seat] == first:
            return trail[trail.index(seat):]
    return None


def raised(graph, heights, steps, mean):
    """Raise each height that is too low for the mean, and keep the picture for which; tell whether there was one."""
    total, many = mean
    found = False
    for seat in graph:
        for picture in graph[seat]:
            cost, later = graph[seat][picture]
            least = heights[later] + many * cost - total
            if least > heights[seat]:
                heights[seat] = least
                steps[seat] = picture
                found = True
    return found


def dearer(graph, mean):
    """Give heights for a mean, and None; or the heights so far, and the pictures of a round with a greater mean.

    The pictures are a dict from seats.
    """
    heights = {seat: 0 for seat in graph}
    steps = {}
    while raised(graph, heights, steps, mean):
        # A height is never greater than what the picture that raised it asks for, and was less than that when it was
        # raised. So pictures that make a round have a greater mean; and they do at last, if there is such a round.
        if closed(graph, steps) is not None:
            return heights, steps
    return heights, None


def mean_of(graph, seats, steps):
    """Give the mean of a round."""
    return lowest(sum([graph[seat][steps[seat]][0] for seat in seats]), len(seats))


def dearest(graph):
    """Give the greatest mean of a round, the first seat and the pictures of such a round, and heights that show it."""
    steps = {seat: min(graph[seat]) for seat in graph}
    while steps is not None:
        seats = closed(graph, steps)
        mean = mean_of(graph, seats, steps)
        turn = [steps[seat] for seat in seats]
        heights, steps = dearer(graph, mean)
    return mean, seats[0], turn, heights
