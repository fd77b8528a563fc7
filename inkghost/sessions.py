"""Sessions: a panel at work, with a journal, undoing, branches and trials."""

from inkghost.errors import BadSets, NothingDone
from inkghost.states import check_banks, check_update, start
from inkghost.steps import REST, can_flash, cost_at, is_item, state_at

MOST_TRIED = 20


class Layer:
    """The state and the steps of a session, in a trial above those at its beginning.

    A step is a pair of the state before it and its triple for the journal.
    """

    def __init__(self, shown, steps, below):
        self.shown = shown
        self.steps = list(steps)
        self.below = below


class Session:
    """A panel at work: its state, and the journal of its updates and rests."""

    def __init__(self, panel):
        self.top = Layer(start(panel), [], None)
        self.panel = panel

    def __len__(self):
        return len(self.top.steps)

    def __enter__(self):
        self.top = Layer(self.top.shown, self.top.steps, self.top)
        return self

    def __exit__(self, kind, value, trace):
        self.top = self.top.below

    @property
    def state(self):
        """The state now."""
        return self.top.shown

    @property
    def journal(self):
        """A new list of the triples of an item, the banks that were flashed, and what this cost."""
        return [triple for before, triple in self.top.steps]

    def update(self, picture, banks):
        """Make an update, and give what it costs."""
        check_update(self.panel, self.top.shown, picture, banks)
        return self.make(picture, banks)

    def rest(self, banks):
        """Make a rest, and give what it costs."""
        check_banks(self.panel, banks)
        return self.make(REST, banks)

    def make(self, item, banks):
        """Make a step that is known to be possible, and give what it costs."""
        top = self.top
        cost = cost_at(self.panel, item, banks)
        top.steps.append((top.shown, (item, banks, cost)))
        top.shown = state_at(self.panel, top.shown, item, banks)
        return cost

    def spent(self):
        """Give the sum of all costs."""
        return sum([triple[2] for before, triple in self.top.steps])

    def undo(self):
        """Take back the last update or rest, and give its triple."""
        top = self.top
        if len(top.steps) == steps_below(top):
            raise NothingDone("there is nothing to take back")
        before, triple = top.steps.pop()
        top.shown = before
        return triple

    def branch(self):
        """Give an independent session with the same panel, state and journal, in no trial."""
        other = Session(self.panel)
        other.top = Layer(self.top.shown, self.top.steps, None)
        return other

    def trial(self):
        """Give what a with-block asks for to be a trial: the session itself."""
        return self

    def tried(self, pairs):
        """Make updates and rests in a trial, and give the list of what they cost."""
        if not isinstance(pairs, (list, tuple)) or len(pairs) > MOST_TRIED:
            raise BadSets(None)
        costs = []
        with self.trial() as inner:
            for index, pair in enumerate(pairs):
                if not is_step(inner.panel, inner.state, pair):
                    raise BadSets(index)
                item, banks = pair
                costs.append(inner.make(item, banks))
        return costs


def steps_below(layer):
    """Give the number of the steps before the trial of a layer."""
    if layer.below is None:
        return 0
    return len(layer.below.steps)


def is_step(panel, state, pair):
    """Tell whether a value is a pair of an item and a set of banks that can be flashed then."""
    if not isinstance(pair, tuple) or len(pair) != 2:
        return False
    item, banks = pair
    return is_item(panel, state[0], item) and can_flash(panel, state, item, banks)
