"""Fixed rules of the driver: what they flash, what they cost with the worst pictures, and which ones are alike."""

from inkghost.checks import is_integer
from inkghost.errors import BadMemory, BadPictures, BadRule
from inkghost.games import every_bank
from inkghost.panels import check_panel
from inkghost.ratios import is_mean
from inkghost.rounds import dearest, trail_to
from inkghost.states import check_picture, ghosts_after, price, start

RULES = ("due", "all", "early", "turn")


class Worst:
    """The greatest mean of a round of a rule: a road to such a round, the round, and heights."""

    def __init__(self, mean, road, turn, heights):
        self.mean = mean
        self.road = list(road)
        self.turn = list(turn)
        self.heights = {seat: heights[seat] for seat in heights}

    def __eq__(self, other):
        return (
            isinstance(other, Worst)
            and self.mean == other.mean
            and self.road == other.road
            and self.turn == other.turn
            and self.heights == other.heights
        )

    def shows(self, panel, rule):
        """Tell whether the mean is the greatest one of the rule, and the round and the heights show it."""
        check_rule(panel, rule)
        if not is_mean(self.mean) or first_seat(panel) not in self.heights:
            return False
        return has_mean(self, panel, rule) and all([is_high(self, panel, rule, seat) for seat in self.heights])


class Alike:
    """Triples of a state and two memories, with which two rules flash the same banks."""

    def __init__(self, triples):
        self.triples = list(triples)

    def __eq__(self, other):
        return isinstance(other, Alike) and self.triples == other.triples

    def shows(self, panel, one, other):
        """Tell whether both rules flash the same banks in all triples, which lead to triples only."""
        check_rules(panel, one, other)
        known = {triple: True for triple in self.triples}
        return first_triple(panel) in known and all(
            [later in known for triple in known for later in triples_after(panel, one, other, triple).values()]
        )


class Apart:
    """Pictures at whose last one two rules flash different banks for the first time."""

    def __init__(self, pictures):
        self.pictures = list(pictures)

    def __eq__(self, other):
        return isinstance(other, Apart) and self.pictures == other.pictures

    def shows(self, panel, one, other):
        """Tell whether the rules flash different banks at the last picture, and not before."""
        check_rules(panel, one, other)
        triple = first_triple(panel)
        for picture in self.pictures:
            # None is what different banks have led to; no picture may come after that.
            if triple is None or picture not in panel.follows[triple[0][0]]:
                return False
            triple = triples_after(panel, one, other, triple)[picture]
        return triple is None


def check_word(rule):
    """Refuse what is not one of the four words."""
    # Other values may say that they are equal to a word.
    if not isinstance(rule, str) or rule not in RULES:
        raise BadRule("not a rule")


def check_rule(panel, rule):
    """Refuse what is not a panel, then what is not a rule."""
    check_panel(panel)
    check_word(rule)


def check_rules(panel, one, other):
    """Refuse what is not a panel, then what is not a rule, the first one before the second one."""
    check_rule(panel, one)
    check_word(other)


def first_seat(panel):
    """Give the seat at the beginning."""
    return (start(panel), 0)


def first_triple(panel):
    """Give the state at the beginning with the memories of two rules."""
    return (start(panel), 0, 0)


def last_memory(panel, rule):
    """Give the greatest memory of a rule."""
    if rule == "turn":
        return len(panel.prices) - 1
    return 0


def banks_with(panel, ghosts, least):
    """Give the banks in which the ghost of a cell is at least so great."""
    return tuple(sorted(set([bank for bank, ghost in zip(panel.banks, ghosts) if ghost >= least])))


def flashed(panel, rule, seat, picture):
    """Give the banks that a rule flashes at a seat when a picture comes."""
    state, memory = seat
    ghosts = ghosts_after(panel, state, picture, ())
    if rule == "early":
        return banks_with(panel, ghosts, panel.bound)
    found = banks_with(panel, ghosts, panel.bound + 1)
    if rule == "all" and found != ():
        return every_bank(panel)
    if rule == "turn":
        return tuple(sorted(set([*found, memory])))
    return found


def seat_after(panel, rule, seat, picture):
    """Give the seat after an update by a rule."""
    state, memory = seat
    later = (picture, ghosts_after(panel, state, picture, flashed(panel, rule, seat, picture)))
    if memory == last_memory(panel, rule):
        return (later, 0)
    return (later, memory + 1)


def due(panel, state, picture):
    """Give the set of the banks that must be flashed when a picture comes."""
    check_picture(panel, state, picture)
    return flashed(panel, "due", (state, 0), picture)


def flashes(panel, rule, state, picture, *, memory=0):
    """Give the set of the banks that a rule flashes when a picture comes."""
    check_rule(panel, rule)
    check_picture(panel, state, picture)
    if not is_integer(memory, 0, last_memory(panel, rule)):
        raise BadMemory("not a memory of the rule")
    return flashed(panel, rule, (state, memory), picture)


def follow(panel, rule, pictures):
    """Give the list of the sets of banks that a rule flashes on a road."""
    check_rule(panel, rule)
    if not isinstance(pictures, (list, tuple)):
        raise BadPictures(None)
    seat = first_seat(panel)
    found = []
    for index, picture in enumerate(pictures):
        if not isinstance(picture, str) or picture not in panel.follows[seat[0][0]]:
            raise BadPictures(index)
        found.append(flashed(panel, rule, seat, picture))
        seat = seat_after(panel, rule, seat, picture)
    return found


def seats_after(panel, rule, seat):
    """Give a dict from the pictures that can follow to pairs of the cost by a rule and the seat after it."""
    return {
        picture: (price(panel, flashed(panel, rule, seat, picture)), seat_after(panel, rule, seat, picture))
        for picture in panel.follows[seat[0][0]]
    }


def seat_graph(panel, rule):
    """Give these dicts for all seats that can come about by a rule."""
    graph = {}
    waiting = [first_seat(panel)]
    while waiting:
        seat = waiting.pop()
        if seat not in graph:
            graph[seat] = seats_after(panel, rule, seat)
            waiting.extend([later for cost, later in graph[seat].values()])
    return graph


def drive(panel, rule, seat, pictures):
    """Give the cost of some pictures by a rule and the seat after them, or None if one of them cannot follow."""
    total = 0
    for picture in pictures:
        moves = seats_after(panel, rule, seat)
        if picture not in moves:
            return None
        cost, seat = moves[picture]
        total = total + cost
    return (total, seat)


def has_mean(found, panel, rule):
    """Tell whether a road can be followed, and a round after it has the mean."""
    way = drive(panel, rule, first_seat(panel), found.road)
    if way is None or found.turn == []:
        return False
    lap = drive(panel, rule, way[1], found.turn)
    if lap is None or lap[1] != way[1]:
        return False
    total, many = found.mean
    return lap[0] * many == total * len(found.turn)


def is_high(found, panel, rule, seat):
    """Tell whether each picture leads from a seat to a height that is small enough."""
    total, many = found.mean
    for cost, later in seats_after(panel, rule, seat).values():
        if later not in found.heights or found.heights[later] > found.heights[seat] + total - many * cost:
            return False
    return True


def worst(panel, rule):
    """Give the greatest mean of a round of a rule, with what shows it."""
    check_rule(panel, rule)
    graph = seat_graph(panel, rule)
    mean, seat, turn, heights = dearest(graph)
    return Worst(mean, trail_to(graph, first_seat(panel), seat), turn, heights)


def worst_mean(panel, rule):
    """Give the greatest mean of a round of a rule."""
    return worst(panel, rule).mean


def triples_after(panel, one, other, triple):
    """Give a dict from the pictures that can follow to the triples after them, or to None if the banks differ."""
    state, first, second = triple
    found = {}
    for picture in panel.follows[state[0]]:
        if flashed(panel, one, (state, first), picture) == flashed(panel, other, (state, second), picture):
            later, memory = seat_after(panel, one, (state, first), picture)
            found[picture] = (later, memory, seat_after(panel, other, (state, second), picture)[1])
        else:
            found[picture] = None
    return found


def compare(panel, one, other):
    """Give what shows that two rules are alike, or the first list of pictures that shows that they are not."""
    check_rules(panel, one, other)
    roads = {first_triple(panel): []}
    waiting = [first_triple(panel)]
    # The triples wait in the order of their first roads, so the first difference is at the end of the first list.
    while waiting:
        triple = waiting.pop(0)
        moves = triples_after(panel, one, other, triple)
        for picture in moves:
            later = moves[picture]
            if later is None:
                return Apart([*roads[triple], picture])
            if later not in roads:
                roads[later] = [*roads[triple], picture]
                waiting.append(later)
    return Alike(sorted(roads))


def are_alike(panel, one, other):
    """Tell whether two rules flash the same banks at each update, whatever pictures come."""
    return isinstance(compare(panel, one, other), Alike)
