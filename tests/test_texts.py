"""Tests of inkghost.texts: point 14 of the document."""

import random
import unittest

from inkghost import texts as module
from inkghost.errors import BadScript, BadSets, BadText
from inkghost.panels import Panel
from inkghost.states import start
from inkghost.texts import panel_text, read_panel, read_script, read_state, script_text, state_text
from plain_steps import panel_fault, random_script, random_sets, script_fault, texts_near
from samples import FLIP, STRANGE, Agreeable, all_states, example, random_panels, samples
from test_sessions import EXAMPLE
from wrong import DocumentCase

PANEL = "banks 0 1\nbound 1\nprices 2 3\n00 11\n01 00\n11 00 01\n"
FIVE = "banks 0 1 1\nbound 2\nprices 5 1\n000 001 110\n001 010\n010 100\n100 110\n110 000\n"
NO_TEXTS = [*STRANGE, 0, 1, (), {}, PANEL.encode(), [PANEL], (PANEL,), Agreeable(), "x".join]
# Signs that int() and the methods of strings take for digits, spaces or ends of lines, and others.
ODD_SIGNS = ["\r", "\t", "\x0b", "\x0c", "\x1c", "\x85", "\xa0", "\u2028", "\u3000", "\x00", "\ufeff", "_", "+", "-",
             "\u0661", "\uff11", "\xb2", "\xb9"]


def both_scripts(seed, panels, many):
    """Give panels with states, scripts and sets."""
    source = random.Random(seed)
    found = []
    for panel in panels:
        for _ in range(many):
            state = source.choice(all_states(panel))
            script = random_script(source, panel, state, source.randint(1, 8))
            found.append((panel, state, script, random_sets(source, panel, state, script)))
    return found


class TextCase(DocumentCase):
    def refused_at(self, row, function, *rest):
        with self.assertRaises(BadText) as caught:
            function(*rest)
        self.assertEqual(caught.exception.row, row, rest)


class PanelTextTest(TextCase):
    def test_the_example_of_the_interface(self):
        self.example_holds(EXAMPLE, 9)

    def test_texts_that_are_known(self):
        self.assertEqual(panel_text(example()), PANEL)
        self.assertEqual(panel_text(Panel((0,), 4, (5,), FLIP)), "banks 0\nbound 4\nprices 5\n0 1\n1 0\n")
        panel = Panel((2, 0, 1), 2, (3, 1, 2), {"111": ("010", "111"), "010": ("111",)})
        self.assertEqual(panel_text(panel), "banks 2 0 1\nbound 2\nprices 3 1 2\n010 111\n111 010 111\n")

    def test_written_and_read_again(self):
        for panel in [*samples(), *random_panels(151, 60)]:
            text = panel_text(panel)
            self.assertIsNone(panel_fault(text))
            self.assertEqual(read_panel(text), panel)
            self.assertEqual(panel_text(read_panel(text)), text)

    def test_not_a_panel(self):
        self.panel_refused(panel_text)


class ReadPanelTest(TextCase):
    def test_a_panel_is_returned(self):
        found = read_panel(FIVE)
        self.assertIsInstance(found, Panel)
        self.assertEqual((found.banks, found.bound, found.prices), ((0, 1, 1), 2, (5, 1)))
        self.assertEqual(found.follows, {"000": ("001", "110"), "001": ("010",), "010": ("100",), "100": ("110",),
                                         "110": ("000",)})

    def test_not_a_string(self):
        for text in NO_TEXTS:
            self.refused_at(0, read_panel, text)

    def test_the_first_wrong_line(self):
        lines = FIVE.splitlines()
        wrong = {
            0: ["", "banks", "banks 0 1 2 0", "banks 1 1 0 ", " banks 0 1 1", "banks  0 1 1", "Banks 0 1 1", "bank 0 1 1",
                "banks 0 2 2", "banks 1 1 1", "banks 0 1 3", "banks 0 01 1", "banks 0 1 -1", "banks 0,1,1", "banks 0 1 a",
                "bound 2", "banks\t0 1 1", "banks0 1 1"],
            1: ["", "bound", "bound 0", "bound 3", "bound 4", "bound 5", "bound 02", "bound 2 2", "bound  2", "bound 2 ",
                "bounds 2", "bound -2", "bound +2", "bound two", "prices 5 1", "bound2"],
            2: ["", "prices", "prices 5", "prices 5 1 1", "prices 0 1", "prices 6 1", "prices 5 0", "prices 5 10",
                "prices 5, 1", "price 5 1", "prices 5 1 ", "prices 5  1", "000 001"],
            3: ["", "000", "000 ", "000 00", "000 0011", "00 001", "0000 001", "000 001 001", "000 110 001", "000 002",
                "000 001  110", " 000 001", "000 001 110 ", "000,001", "-", "000 -", "prices 5 1"],
            4: ["", "001", "000 001", "000 010", "001 010 010", "001 02", "2 010", "00 010"],
            5: ["000 010", "001 010", "001 100", "010", "010 1", "01 100"],
            7: ["100 000", "110", "011 000", "110 000 000", "110 001 000", "110 000 "],
        }
        for row, others in wrong.items():
            for line in others:
                text = "\n".join([*lines[:row], line, *lines[row + 1:]]) + "\n"
                self.refused_at(row, read_panel, text)
                # Lines before it that are wrong count first, and lines after it do not.
                self.refused_at(row, read_panel, text + "wrong\n")
                self.refused_at(row, read_panel, text + "wrong")
                if row > 0:
                    self.refused_at(0, read_panel, "x" + text)

    def test_the_bound_for_so_many_cells(self):
        for cells, most in ((1, 4), (2, 4), (3, 2)):
            for bound in range(10):
                zero, one = "0" * cells, "1" * cells
                banks = " ".join(str(bank) for bank in range(cells))
                text = f"banks {banks}\nbound {bound}\nprices{' 1' * cells}\n{zero} {one}\n{one} {zero}\n"
                if 1 <= bound <= most:
                    self.assertEqual(read_panel(text).bound, bound)
                else:
                    self.refused_at(1, read_panel, text)

    def test_a_sixth_picture(self):
        self.refused_at(8, read_panel, FIVE + "111 000\n")
        self.refused_at(8, read_panel, FIVE + "\n")
        self.refused_at(8, read_panel, FIVE + "111 000\n\n")
        self.refused_at(8, read_panel, FIVE + "111 000")

    def test_lines_that_are_missing(self):
        for lines in (PANEL.splitlines(keepends=True), FIVE.splitlines(keepends=True)):
            for many in range(4):
                self.refused_at(many, read_panel, "".join(lines[:many]))
                self.refused_at(many, read_panel, "".join(lines[:many]) + "b")
                self.refused_at(many, read_panel, "".join(lines[:many]) + lines[many][:-1])

    def test_characters_after_the_last_line_feed(self):
        for more in ("b", " ", "11", "11 00", "banks 0 1", "\r", "\x00"):
            self.refused_at(6, read_panel, PANEL + more)
            self.refused_at(8, read_panel, FIVE + more)
        self.refused_at(5, read_panel, PANEL[:-1])
        # They count before the pictures as a whole.
        self.refused_at(4, read_panel, "banks 0\nbound 1\nprices 1\n0 1\n1")
        self.refused_at(5, read_panel, "banks 0\nbound 1\nprices 1\n0 0\n1 0\nx")

    def test_pictures_that_are_wrong_as_a_whole(self):
        head = "banks 0 0\nbound 1\nprices 1\n"
        for pictures in ("00 11\n", "00 00 11\n11 11\n", "00 11\n11 11\n", "00 00\n11 11\n", "00 01\n01 00\n11 00\n",
                         "00 01\n01 00 10\n", "00 00 01 10 11\n", "11 00\n"):
            self.refused_at(3, read_panel, head + pictures)
        self.assertEqual(read_panel(head + "00 00\n").follows, {"00": ("00",)})
        self.assertEqual(read_panel(head + "00 11\n11 00 11\n").follows, {"00": ("11",), "11": ("00", "11")})

    def test_texts_with_one_thing_changed(self):
        for panel in [*samples()[:7:2], read_panel(FIVE)]:
            for text in texts_near(panel_text(panel), "0123459 \nb-"):
                self.read_as_the_plain_account_reads(text)

    def test_signs_that_are_taken_for_others_elsewhere(self):
        for sign in ODD_SIGNS:
            for text in texts_near(PANEL, sign):
                self.read_as_the_plain_account_reads(text)

    def read_as_the_plain_account_reads(self, text):
        fault = panel_fault(text)
        if fault is None:
            self.assertEqual(panel_text(read_panel(text)), text)
        else:
            self.refused_at(fault, read_panel, text)


class StateTextTest(TextCase):
    def test_texts_that_are_known(self):
        self.assertEqual(state_text(example(), ("11", (1, 0))), "11 1 0")
        self.assertEqual(state_text(Panel((0,), 4, (1,), FLIP), ("0", (4,))), "0 4")
        self.assertEqual(state_text(Panel((0, 0, 0), 2, (1,), {"010": ("010",)}), ("010", (2, 0, 1))), "010 2 0 1")

    def test_written_and_read_again(self):
        for panel in [*samples(), *random_panels(152, 20)]:
            texts = [state_text(panel, state) for state in all_states(panel)]
            self.assertEqual([read_state(panel, text) for text in texts], all_states(panel))
            self.assertEqual(len(set(texts)), len(texts))

    def test_texts_with_one_thing_changed(self):
        for panel in samples():
            right = {state_text(panel, state): state for state in all_states(panel)}
            for text in list(right)[::9]:
                for other in texts_near(text, "0124 \n-" + "".join(ODD_SIGNS)):
                    if other in right:
                        self.assertEqual(read_state(panel, other), right[other])
                    else:
                        self.refused_at(0, read_state, panel, other)

    def test_not_texts_of_a_state(self):
        for text in [*NO_TEXTS, "", "\n", "11", "11 1", "11 1 0\n", "11 1 0 ", " 11 1 0", "11  1 0", "11 1 0 0", "11 10",
                     "1 1 1 0", "10 1 0", "11 2 0", "11 1 -1", "11 01 0", "11 1,0", "rest 1 0", "('11', (1, 0))", "11 - -"]:
            self.refused_at(0, read_state, example(), text)

    def test_errors_in_order(self):
        self.panel_refused(state_text, ("00", (0, 0)))
        self.panel_refused(state_text, None)
        self.state_refused(state_text)
        self.panel_refused(read_state, "11 1 0")
        self.panel_refused(read_state, None)


class ScriptTextTest(TextCase):
    def test_texts_that_are_known(self):
        panel = Panel((0, 1, 2), 1, (1, 1, 1), {"000": ("111",), "111": ("000",)})
        script, sets = ["rest", "111", "rest", "rest", "000"], [(), (0,), (1, 2), (0, 1, 2), (0, 2)]
        text = "rest -\n111 0\nrest 1,2\nrest 0,1,2\n000 0,2\n"
        self.assertEqual(script_text(panel, start(panel), script, sets), text)
        self.assertEqual(script_text(panel, start(panel), tuple(script), tuple(sets)), text)
        self.assertEqual(read_script(panel, start(panel), text), (script, sets))

    def test_written_and_read_again(self):
        for panel, state, script, sets in both_scripts(153, [*samples(), *random_panels(154, 30)], 5):
            text = script_text(panel, state, script, sets)
            self.assertIsNone(script_fault(panel, state, text))
            found = read_script(panel, state, text)
            self.assertEqual(found, (script, sets))
            self.assertEqual([type(part) for part in (found, *found)], [tuple, list, list])

    def test_errors_in_order(self):
        state = ("00", (0, 0))
        self.panel_refused(script_text, state, ["11"], [()])
        self.panel_refused(script_text, None, None, None)
        self.state_refused(script_text, ["11"], [()])
        self.state_refused(script_text, None, None)
        for script, index in ((None, None), ([], None), (["rest"] * 9, None), ("11", None), (["00"], 0), (["11", "11"], 1)):
            for sets in ([()], None):
                with self.assertRaises(BadScript) as caught:
                    script_text(example(), state, script, sets)
                self.assertEqual(caught.exception.index, index)
        for sets, index in ((None, None), ([()], None), ("ab", None), ([(), ()], 1), ([(), [0, 1]], 1), ([(1, 0), None], 0)):
            with self.assertRaises(BadSets) as caught:
                script_text(example(), state, ["11", "00"], sets)
            self.assertEqual(caught.exception.index, index)

    def test_what_is_passed_stays_as_it_is(self):
        script, sets = ["11", "rest"], [(), (0, 1)]
        script_text(example(), ("00", (0, 0)), script, sets)
        self.assertEqual((script, sets), (["11", "rest"], [(), (0, 1)]))


class ReadScriptTest(TextCase):
    def test_the_lists_are_new(self):
        script, sets = read_script(example(), ("00", (0, 0)), "11 -\nrest 0\n")
        script.clear()
        sets.clear()
        self.assertEqual(read_script(example(), ("00", (0, 0)), "11 -\nrest 0\n"), (["11", "rest"], [(), (0,)]))

    def test_the_first_wrong_line(self):
        wrong = ["", " ", "-", "rest", "rest ", " rest -", "rest  -", "rest - ", "rest -,0", "rest 0,", "rest ,0", "rest 0, 1",
                 "rest 0 1", "rest 01", "rest 1,0", "rest 0,0", "rest 2", "rest 0,1,2", "rest -1", "rest +1", "rest a",
                 "Rest -", "rest\t-", "rest (0,)", "11 -", "10 0,1", "00 -", "00 0", "01 1", "01", "01 ", "01 0,1 ", "1 0,1",
                 "001 0,1", "rest,0", "rest--"]
        for line in wrong:
            self.refused_at(0, read_script, example(), ("11", (1, 1)), line + "\n")
            self.refused_at(2, read_script, example(), ("00", (0, 0)), f"rest -\n11 -\n{line}\nrest 0\n")
            self.refused_at(2, read_script, example(), ("00", (0, 0)), f"rest -\n11 -\n{line}\nrest 7\nx")
            self.refused_at(1, read_script, example(), ("00", (0, 0)), f"rest -\n11 7\n{line}\n")

    def test_what_is_possible_depends_on_the_lines_before(self):
        panel, state = example(), ("11", (1, 1))
        self.assertEqual(read_script(panel, state, "rest 1\n01 0\n"), (["rest", "01"], [(1,), (0,)]))
        self.refused_at(1, read_script, panel, state, "rest 1\n01 1\n")
        self.refused_at(1, read_script, panel, state, "01 0\n01 0\n")
        self.refused_at(0, read_script, panel, ("01", (1, 1)), "01 0\n")

    def test_no_line_and_a_ninth_one(self):
        panel, state = example(), ("00", (0, 0))
        self.refused_at(0, read_script, panel, state, "")
        self.refused_at(0, read_script, panel, state, "rest -")
        self.assertEqual(read_script(panel, state, "rest -\n" * 8), (["rest"] * 8, [()] * 8))
        for more in ("rest -\n", "\n", "wrong\n", "rest -\nrest -\n", "rest -\nx"):
            self.refused_at(8, read_script, panel, state, "rest -\n" * 8 + more)

    def test_characters_after_the_last_line_feed(self):
        for many in range(9):
            for more in ("r", " ", "rest -", "11 -", "\r"):
                self.refused_at(many, read_script, example(), ("00", (0, 0)), "rest -\n" * many + more)

    def test_not_a_string(self):
        for text in NO_TEXTS:
            self.refused_at(0, read_script, example(), ("00", (0, 0)), text)

    def test_texts_with_one_thing_changed(self):
        for panel, state, script, sets in both_scripts(155, samples(), 1):
            for text in texts_near(script_text(panel, state, script, sets), "01247 ,-\nr"):
                self.read_as_the_plain_account_reads(panel, state, text)

    def test_signs_that_are_taken_for_others_elsewhere(self):
        for sign in ODD_SIGNS:
            for text in texts_near("11 -\nrest 0,1\n00 1\n", sign):
                self.read_as_the_plain_account_reads(example(), ("00", (0, 0)), text)

    def read_as_the_plain_account_reads(self, panel, state, text):
        fault = script_fault(panel, state, text)
        if fault is None:
            self.assertEqual(script_text(panel, state, *read_script(panel, state, text)), text)
        else:
            self.refused_at(fault, read_script, panel, state, text)

    def test_errors_in_order(self):
        self.panel_refused(read_script, ("00", (0, 0)), "rest -\n")
        self.panel_refused(read_script, None, None)
        self.state_refused(read_script, "rest -\n")
        self.state_refused(read_script, None)


class NamesTest(TextCase):
    def test_names(self):
        self.names_are_defined_in(module, "panel_text", "state_text", "script_text", "read_panel", "read_state",
                                  "read_script")
        panel, state = example(), ("00", (0, 0))
        self.assertEqual(panel_text(panel=panel), PANEL)
        self.assertEqual(state_text(state=state, panel=panel), "00 0 0")
        self.assertEqual(script_text(sets=[()], script=["11"], state=state, panel=panel), "11 -\n")
        self.assertEqual(read_panel(text=PANEL), panel)
        self.assertEqual(read_state(text="00 0 0", panel=panel), state)
        self.assertEqual(read_script(text="11 -\n", state=state, panel=panel), (["11"], [()]))


if __name__ == "__main__":
    unittest.main()
