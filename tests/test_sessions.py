"""Tests of inkghost.sessions: point 13 of the document."""

import random
import unittest

from inkghost import sessions as module
from inkghost.errors import BadBanks, BadPicture, BadSets, NothingDone
from inkghost.panels import Panel
from inkghost.sessions import Session
from inkghost.states import start
from plain_steps import cost_for, next_state, sets_for
from samples import FLIP, STRANGE, Agreeable, all_sets, example, random_panels, samples
from wrong import NO_BANKS, NO_PICTURES, DocumentCase

EXAMPLE = """
>>> from inkghost.panels import Panel
>>> from inkghost.sessions import Session
>>> from inkghost.states import start
>>> from inkghost.texts import panel_text, read_panel, read_script, read_state, script_text, state_text
>>> panel = Panel((0, 1), 1, (2, 3), {'00': ('11',), '11': ('00', '01'), '01': ('00',)})
>>> session = Session(panel)
>>> found = [session.update('11', ()), session.tried([('rest', (0, 1)), ('00', ())]), session.update('01', (0,)), session.rest((1,)), session.spent(), session.undo()]
>>> texts = [panel_text(panel), state_text(panel, session.state), script_text(panel, start(panel), ['11', 'rest'], [(), (0, 1)]), read_state(panel, '01 0 1')]
>>> [found, texts, read_panel(panel_text(panel)) == panel, read_script(panel, start(panel), '11 1\\nrest -\\n')]
[[0, [2, 0], 2, 1, 3, ('rest', (1,), 1)], ['banks 0 1\\nbound 1\\nprices 2 3\\n00 11\\n01 00\\n11 00 01\\n', '01 0 1', '11 -\\nrest 0,1\\n', ('01', (0, 1))], True, (['11', 'rest'], [(1,), ()])]
"""


class Left(Exception):
    """An error that is not one of the package."""


def told(session):
    """Give all that a session tells."""
    return (session.state, session.journal, len(session), session.spent())


def begun():
    """Make a session in which 11 is shown and both ghosts are 1."""
    session = Session(example())
    session.update("11", ())
    return session


AT_BEGUN = (("11", (1, 1)), [("11", (), 0)], 1, 0)


class SessionCase(DocumentCase):
    def tells(self, session, state, journal):
        """Test what a session tells, as its journal makes it."""
        self.assertEqual(told(session), (state, journal, len(journal), sum(cost for _, _, cost in journal)))

    def nothing_done(self, session):
        before = told(session)
        with self.assertRaises(NothingDone):
            session.undo()
        self.assertEqual(told(session), before)


class StepsTest(SessionCase):
    def test_the_example_of_the_interface(self):
        self.example_holds(EXAMPLE, 9)

    def test_at_first(self):
        for panel in samples():
            self.tells(Session(panel), start(panel), [])

    def test_updates_and_rests(self):
        session = Session(example())
        self.assertEqual(session.update("11", ()), 0)
        self.tells(session, ("11", (1, 1)), [("11", (), 0)])
        self.assertEqual(session.rest((1,)), 1)
        self.tells(session, ("11", (1, 0)), [("11", (), 0), ("rest", (1,), 1)])
        self.assertEqual(session.update("01", (0,)), 2)
        self.assertEqual(session.rest(()), 0)
        self.assertEqual(session.update("00", (0, 1)), 5)
        self.assertEqual(session.rest((0, 1)), 2)
        self.tells(session, ("00", (0, 0)), [("11", (), 0), ("rest", (1,), 1), ("01", (0,), 2), ("rest", (), 0),
                                             ("00", (0, 1), 5), ("rest", (0, 1), 2)])

    def test_the_kinds_of_the_values(self):
        session = begun()
        self.assertIs(type(session.rest((0,))), int)
        self.assertIs(type(session.spent()), int)
        self.assertEqual([type(session.state), type(session.journal), type(session.journal[0])], [tuple, list, tuple])
        self.assertIs(type(session.undo()), tuple)

    def test_pictures_that_cannot_follow(self):
        session = begun()
        for picture in [*NO_PICTURES, "11", "10", "rest", Agreeable()]:
            for banks in ((0, 1), (), None, (5,)):
                with self.assertRaises(BadPicture):
                    session.update(picture, banks)
        self.assertEqual(told(session), AT_BEGUN)

    def test_sets_that_cannot_be_flashed(self):
        session = begun()
        for banks in [*NO_BANKS, (), (0,), (1,)]:
            with self.assertRaises(BadBanks):
                session.update("00", banks)
        self.assertEqual(told(session), AT_BEGUN)
        self.assertEqual(session.update("00", (0, 1)), 5)

    def test_a_rest_takes_all_sets_of_the_panel(self):
        for banks in NO_BANKS:
            session = begun()
            with self.assertRaises(BadBanks):
                session.rest(banks)
            self.assertEqual(told(session), AT_BEGUN)
        for banks in all_sets(example()):
            self.assertEqual(begun().rest(banks), len(banks))
        with self.assertRaises(BadBanks):
            Session(Panel((0,), 1, (1,), FLIP)).rest((1,))

    def test_the_journal_is_new(self):
        session = begun()
        session.journal.clear()
        session.journal.append(("rest", (), 0))
        self.assertEqual(told(session), AT_BEGUN)
        kept = session.journal
        session.rest((0,))
        self.assertEqual(kept, [("11", (), 0)])

    def test_properties_cannot_be_set(self):
        session = begun()
        for name, value in (("state", ("00", (0, 0))), ("journal", [])):
            with self.assertRaises(AttributeError):
                setattr(session, name, value)
        self.assertEqual(told(session), AT_BEGUN)

    def test_the_panel_stays_as_it_is(self):
        panel = example()
        session = Session(panel)
        session.update("11", ())
        self.assertEqual(panel, example())
        self.tells(Session(panel), start(panel), [])


class UndoTest(SessionCase):
    def test_nothing_at_first(self):
        self.nothing_done(Session(example()))

    def test_back_to_the_beginning(self):
        session = Session(example())
        steps = [("11", ()), ("rest", (0,)), ("01", (1,)), ("rest", ()), ("00", (0, 1))]
        before = [told(session)]
        for item, banks in steps:
            session.rest(banks) if item == "rest" else session.update(item, banks)
            before.append(told(session))
        for item, banks in reversed(steps):
            self.assertEqual(told(session), before.pop())
            self.assertEqual(session.undo(), (item, banks, cost_for(example(), item, banks)))
        self.assertEqual(told(session), before[0])
        self.nothing_done(session)

    def test_other_steps_after_it(self):
        session = begun()
        session.update("00", (0, 1))
        self.assertEqual(session.undo(), ("00", (0, 1), 5))
        session.update("01", (0,))
        self.tells(session, ("01", (0, 1)), [("11", (), 0), ("01", (0,), 2)])

    def test_a_refused_step_is_not_undone(self):
        session = begun()
        with self.assertRaises(BadBanks):
            session.update("00", ())
        self.assertEqual(session.undo(), ("11", (), 0))
        self.nothing_done(session)


class BranchTest(SessionCase):
    def test_the_same_and_independent(self):
        session = begun()
        other = session.branch()
        self.assertIsInstance(other, Session)
        self.assertIsNot(other, session)
        self.assertEqual(told(other), told(session))
        session.rest((0,))
        self.assertEqual(told(other), AT_BEGUN)
        other.update("01", (0, 1))
        self.tells(other, ("01", (0, 0)), [("11", (), 0), ("01", (0, 1), 5)])
        self.tells(session, ("11", (0, 1)), [("11", (), 0), ("rest", (0,), 1)])
        session.undo()
        session.undo()
        self.assertEqual([other.undo(), other.undo()], [("01", (0, 1), 5), ("11", (), 0)])
        self.nothing_done(other)

    def test_the_panel_is_the_same(self):
        panel = Panel((0,), 3, (4,), FLIP)
        self.assertEqual(Session(panel).branch().update("1", (0,)), 4)

    def test_all_can_be_undone_in_a_branch_of_a_trial(self):
        session = begun()
        with session.trial():
            session.rest((0,))
            with session.trial():
                session.rest((1,))
                other = session.branch()
                session.undo()
                self.assertEqual(other.undo(), ("rest", (1,), 1))
                self.assertEqual([other.undo(), other.undo()], [("rest", (0,), 1), ("11", (), 0)])
                self.nothing_done(other)
                self.nothing_done(session)
        self.assertEqual(told(session), AT_BEGUN)
        self.tells(other, ("00", (0, 0)), [])

    def test_a_branch_stays_after_the_trial(self):
        session = begun()
        with session.trial() as inner:
            inner.rest((0, 1))
            other = inner.branch()
        self.tells(other, ("11", (0, 0)), [("11", (), 0), ("rest", (0, 1), 2)])
        self.assertEqual(other.update("00", ()), 0)
        self.assertEqual(told(session), AT_BEGUN)

    def test_a_trial_of_a_branch_is_not_one_of_the_session(self):
        session = begun()
        other = session.branch()
        with other.trial():
            session.rest((0,))
            other.rest((1,))
            self.assertEqual(session.undo(), ("rest", (0,), 1))
            self.assertEqual(session.undo(), ("11", (), 0))
        self.assertEqual(told(other), AT_BEGUN)
        self.tells(session, ("00", (0, 0)), [])


class TrialTest(SessionCase):
    def test_the_session_itself(self):
        session = begun()
        with session.trial() as inner:
            self.assertIs(inner, session)

    def test_all_is_as_before(self):
        session = begun()
        with session.trial() as inner:
            inner.rest((0, 1))
            session.update("00", ())
            self.tells(inner, ("00", (1, 1)), [("11", (), 0), ("rest", (0, 1), 2), ("00", (), 0)])
        self.assertEqual(told(session), AT_BEGUN)
        self.assertEqual(session.undo(), ("11", (), 0))
        self.nothing_done(session)

    def test_only_its_own_steps_can_be_undone(self):
        session = begun()
        with session.trial():
            self.nothing_done(session)
            session.rest((0,))
            self.assertEqual(session.undo(), ("rest", (0,), 1))
            self.nothing_done(session)
            session.rest((1,))
        self.assertEqual(told(session), AT_BEGUN)

    def test_trials_within_one_another(self):
        session = begun()
        with session.trial():
            session.rest((0,))
            before = told(session)
            with session.trial() as inner:
                self.nothing_done(session)
                inner.rest((1,))
                with inner.trial() as last:
                    self.assertIs(last, session)
                    last.update("00", ())
                    self.assertEqual(len(session), 4)
                self.assertEqual(session.undo(), ("rest", (1,), 1))
                self.nothing_done(session)
            self.assertEqual(told(session), before)
            with session.trial():
                session.rest(())
            self.assertEqual(session.undo(), ("rest", (0,), 1))
            self.nothing_done(session)
        self.assertEqual(told(session), AT_BEGUN)
        session.undo()
        self.tells(session, ("00", (0, 0)), [])

    def test_an_error_that_leaves_it_is_passed_on(self):
        session = begun()
        error = Left("so")
        with self.assertRaises(Left) as caught:
            with session.trial():
                session.rest((0,))
                with session.trial():
                    session.rest((1,))
                    raise error
        self.assertIs(caught.exception, error)
        self.assertEqual(told(session), AT_BEGUN)

    def test_an_error_that_leaves_only_the_inner_one(self):
        session = begun()
        with session.trial():
            session.rest((0,))
            with self.assertRaises(Left):
                with session.trial():
                    session.rest((1,))
                    raise Left
            self.tells(session, ("11", (0, 1)), [("11", (), 0), ("rest", (0,), 1)])
            self.assertEqual(session.undo(), ("rest", (0,), 1))
        self.assertEqual(told(session), AT_BEGUN)

    def test_errors_of_the_session_leave_it(self):
        for wrong in (lambda one: one.update("00", ()), lambda one: one.update("11", ()), lambda one: one.rest((7,)),
                      lambda one: one.tried(None), lambda one: [one.undo(), one.undo()]):
            session = begun()
            with self.assertRaises((BadBanks, BadPicture, BadSets, NothingDone)):
                with session.trial():
                    session.rest(())
                    wrong(session)
            self.assertEqual(told(session), AT_BEGUN)

    def test_returns_breaks_and_exits_leave_it(self):
        session = begun()

        def returned():
            with session.trial() as inner:
                return inner.rest((0, 1))

        self.assertEqual(returned(), 2)
        self.assertEqual(told(session), AT_BEGUN)
        for _ in range(3):
            with session.trial():
                session.rest((0,))
                break
        self.assertEqual(told(session), AT_BEGUN)
        for left in (SystemExit, KeyboardInterrupt, GeneratorExit):
            with self.assertRaises(left):
                with session.trial():
                    session.rest((0,))
                    raise left
        self.assertEqual(told(session), AT_BEGUN)

    def test_the_beginning_is_that_of_the_block(self):
        session = Session(example())
        trial = session.trial()
        session.update("11", ())
        with trial:
            self.nothing_done(session)
            with trial:
                session.rest((0,))
            session.rest((1,))
            self.assertEqual(session.journal, [("11", (), 0), ("rest", (1,), 1)])
        self.assertEqual(told(session), AT_BEGUN)
        self.assertEqual(session.undo(), ("11", (), 0))

    def test_a_trial_that_is_not_entered_does_nothing(self):
        session = begun()
        session.trial()
        self.assertEqual(session.undo(), ("11", (), 0))

    def test_undone_steps_are_there_again_after_it(self):
        session = Session(example())
        with session.trial():
            session.update("11", ())
            with session.trial():
                session.rest((0, 1))
                session.undo()
                session.update("00", (0, 1))
            self.tells(session, ("11", (1, 1)), [("11", (), 0)])


class TriedTest(SessionCase):
    def refused_at(self, index, pairs):
        session = begun()
        with self.assertRaises(BadSets) as caught:
            session.tried(pairs)
        self.assertEqual(caught.exception.index, index)
        self.assertEqual(told(session), AT_BEGUN)
        self.assertEqual(session.undo(), ("11", (), 0))

    def test_costs(self):
        session = begun()
        self.assertEqual(session.tried([]), [])
        self.assertEqual(session.tried(()), [])
        self.assertEqual(session.tried([("00", (0, 1))]), [5])
        self.assertEqual(session.tried((("rest", (1,)), ("01", (0,)), ("rest", (0, 1)), ("00", ()))), [1, 2, 2, 0])
        self.assertEqual(told(session), AT_BEGUN)

    def test_twenty_pairs_and_more(self):
        session = begun()
        self.assertEqual(session.tried([("rest", (0,))] * 20), [1] * 20)
        for pairs in ([("rest", ())] * 21, (("rest", ()),) * 21, [None] * 21, [("rest", ())] * 1000):
            self.refused_at(None, pairs)
        self.refused_at(19, [("rest", ())] * 19 + [("11", ())])

    def test_not_a_list_or_tuple(self):
        for pairs in (*[value for value in STRANGE if not isinstance(value, list)], 0, "", "ab", {}, {("rest", ()): 0}):
            self.refused_at(None, pairs)

    def test_the_first_wrong_pair(self):
        wrong = [*STRANGE, 0, "", "rest", (), ("rest",), ("rest", (), 0), ["rest", ()], {"rest": ()}, ((), "rest"),
                 (None, ()), ([], ()), ("Rest", ()), (("rest",), ()), (Agreeable(), ()), ("rest", Agreeable()),
                 *[("rest", banks) for banks in NO_BANKS], *[(picture, ()) for picture in NO_PICTURES if picture != "rest"],
                 ("00", ()), ("00", (0,)), ("01", (1,)), ("11", (0, 1)), ("01", None)]
        for pair in wrong:
            self.refused_at(0, [pair])
            self.refused_at(0, (pair, None))
            self.refused_at(1, [("rest", ()), pair, None, ("rest", (0,))])

    def test_what_is_possible_depends_on_the_pairs_before(self):
        self.refused_at(2, [("rest", (0, 1)), ("00", ()), ("00", ())])
        self.refused_at(2, [("rest", (0, 1)), ("01", ()), ("11", ())])
        self.refused_at(1, [("rest", (0,)), ("00", ())])
        self.refused_at(1, [("00", (0, 1)), ("01", ())])

    def test_within_a_trial(self):
        session = begun()
        with session.trial():
            session.rest((0,))
            self.assertEqual(session.tried([("01", ()), ("00", (1,))]), [0, 3])
            with self.assertRaises(BadSets):
                session.tried([("01", ()), ("01", ())])
            self.tells(session, ("11", (0, 1)), [("11", (), 0), ("rest", (0,), 1)])
            self.assertEqual(session.undo(), ("rest", (0,), 1))
            self.nothing_done(session)
        self.assertEqual(told(session), AT_BEGUN)

    def test_pairs_that_are_passed_stay_as_they_are(self):
        pairs = [("rest", (0, 1)), ("00", ())]
        begun().tried(pairs)
        self.assertEqual(pairs, [("rest", (0, 1)), ("00", ())])


class Model:
    """A second, plain account of a session: a list of steps, and how many there were at the beginning of each trial."""

    def __init__(self, panel, steps=()):
        self.panel, self.steps, self.begun = panel, list(steps), []

    def state(self):
        state = start(self.panel)
        for item, banks in self.steps:
            state = next_state(self.panel, state, item, banks)
        return state

    def told(self):
        journal = [(item, banks, cost_for(self.panel, item, banks)) for item, banks in self.steps]
        return (self.state(), journal, len(journal), sum(cost for _, _, cost in journal))


class ChanceTest(SessionCase):
    """Sessions that do by chance what can be done, in trials within trials, compared with a model at each step."""

    def item(self, model):
        return self.source.choice([*model.panel.follows[model.state()[0]], "rest"])

    def make(self, session, model, item, banks):
        return session.rest(banks) if item == "rest" else session.update(item, banks)

    def possible_step(self, session, model):
        item = self.item(model)
        banks = self.source.choice(sets_for(model.panel, model.state(), item))
        self.assertEqual(self.make(session, model, item, banks), cost_for(model.panel, item, banks))
        model.steps.append((item, banks))

    def refused_step(self, session, model):
        item = self.item(model)
        for banks in all_sets(model.panel):
            if banks not in sets_for(model.panel, model.state(), item):
                with self.assertRaises(BadBanks):
                    self.make(session, model, item, banks)
        for picture in model.panel.follows:
            if picture not in model.panel.follows[model.state()[0]]:
                with self.assertRaises(BadPicture):
                    session.update(picture, ())

    def undone_step(self, session, model):
        if len(model.steps) == (model.begun[-1] if model.begun else 0):
            self.nothing_done(session)
        else:
            item, banks = model.steps.pop()
            self.assertEqual(session.undo(), (item, banks, cost_for(model.panel, item, banks)))

    def tried_steps(self, session, model):
        other, pairs = Model(model.panel, model.steps), []
        for _ in range(self.source.randrange(6)):
            item = self.item(other)
            pairs.append((item, self.source.choice(sets_for(other.panel, other.state(), item))))
            other.steps.append(pairs[-1])
        self.assertEqual(session.tried(pairs), [cost_for(model.panel, *pair) for pair in pairs])
        with self.assertRaises(BadSets) as caught:
            session.tried([*pairs, ("rest", (9,)), None])
        self.assertEqual(caught.exception.index, len(pairs))

    def branched(self, session, model):
        other = session.branch()
        self.walk(other, Model(model.panel, model.steps), 6)
        for _ in range(len(other)):
            other.undo()
        self.tells(other, start(model.panel), [])

    def in_a_trial(self, session, model):
        before = list(model.steps)
        model.begun.append(len(before))
        try:
            with session.trial() as inner:
                self.walk(inner, model, 6)
                if self.source.random() < 0.5:
                    raise Left
        except Left:
            pass
        model.begun.pop()
        model.steps = before

    def walk(self, session, model, many):
        ways = [self.possible_step] * 4 + [self.refused_step, self.undone_step, self.tried_steps]
        if self.depth < 3:
            ways += [self.branched, self.in_a_trial]
        self.depth += 1
        for _ in range(many):
            self.source.choice(ways)(session, model)
            self.assertEqual(told(session), model.told())
        self.depth -= 1

    def test_walks(self):
        self.source, self.depth = random.Random(141), 0
        for panel in [*samples(), *random_panels(142, 20)]:
            self.walk(Session(panel), Model(panel), 20)


class NamesTest(SessionCase):
    def test_not_a_panel(self):
        self.panel_refused(Session)

    def test_names(self):
        self.assertEqual(Session.__module__, module.__name__)
        for name in ("__init__", "__len__", "state", "journal", "update", "rest", "spent", "undo", "branch", "trial",
                     "tried"):
            self.assertIn(name, vars(Session))
        for name in ("state", "journal"):
            self.assertIsInstance(vars(Session)[name], property)
        session = Session(panel=example())
        self.assertEqual(session.update(banks=(), picture="11"), 0)
        self.assertEqual(session.rest(banks=(0, 1)), 2)
        self.assertEqual(session.tried(pairs=[("00", ())]), [0])


if __name__ == "__main__":
    unittest.main()
