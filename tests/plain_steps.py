"""A second, plain account of the points 11 to 14 of the document, to compare the program with."""

import itertools
import re
from fractions import Fraction

from inkghost.errors import BadPanel
from inkghost.panels import Panel
from plain import cost_of, mean_shown, possible
from samples import all_sets, led_to


# Steps.

def sets_for(panel, state, item):
    """List the sets of banks that can be flashed at an item."""
    return all_sets(panel) if item == "rest" else possible(panel, state, item)


def cost_for(panel, item, banks):
    return len(banks) if item == "rest" else cost_of(panel, banks)


def next_state(panel, state, item, banks):
    if item == "rest":
        return (state[0], tuple(0 if bank in banks else ghost for bank, ghost in zip(panel.banks, state[1])))
    return led_to(panel, state, item, banks)


def state_after_all(panel, state, script, sets):
    for item, banks in zip(script, sets):
        state = next_state(panel, state, item, banks)
    return state


# Scripts.

def random_script(source, panel, state, length):
    """Make a script by chance."""
    script, shown = [], state[0]
    for _ in range(length):
        item = source.choice([*panel.follows[shown], "rest"])
        shown = shown if item == "rest" else item
        script.append(item)
    return script


def random_sets(source, panel, state, script):
    """Give sets that can be flashed, one for each item, by chance."""
    sets = []
    for item in script:
        sets.append(source.choice(sets_for(panel, state, item)))
        state = next_state(panel, state, item, sets[-1])
    return sets


def all_ways(panel, state, script):
    """List all lists of sets that can be flashed, one for each item."""
    if not script:
        return [[]]
    return [[banks, *rest] for banks in sets_for(panel, state, script[0])
            for rest in all_ways(panel, next_state(panel, state, script[0], banks), script[1:])]


def cost_of_sets(panel, script, sets):
    return sum(cost_for(panel, item, banks) for item, banks in zip(script, sets))


def least_of_all_ways(panel, state, script):
    return min(cost_of_sets(panel, script, sets) for sets in all_ways(panel, state, script))


def plan_shown(panel, state, script, found):
    """Tell whether sets and floors show the least cost."""
    if len(found.sets) != len(script):
        return False
    before = state
    for item, banks in zip(script, found.sets):
        if banks not in sets_for(panel, before, item):
            return False
        before = next_state(panel, before, item, banks)
    cost = cost_of_sets(panel, script, found.sets)
    if cost > 0 and found.floors.get((0, state), 0) < cost:
        return False
    for (number, spot), floor in found.floors.items():
        if floor > 0:
            if number >= len(script):
                return False
            item = script[number]
            for banks in sets_for(panel, spot, item):
                rest = floor - cost_for(panel, item, banks)
                if rest > 0 and found.floors.get((number + 1, next_state(panel, spot, item, banks)), 0) < rest:
                    return False
    return True


# Divisions.

def all_divisions(cells):
    """List all divisions: the banks that are numbered as they occur, of all tuples there are."""
    found = [banks for banks in itertools.product(range(cells), repeat=cells)
             if list(dict.fromkeys(banks)) == list(range(len(set(banks))))]
    return sorted(found, key=lambda banks: (len(set(banks)), banks))


def panel_divided(panel, division, rates):
    cells = [division.count(bank) for bank in sorted(set(division))]
    return Panel(division, panel.bound, tuple(rates[many - 1] for many in cells), panel.follows)


def divide_shown(panel, rates, limit, found):
    """Tell whether a division is one with the fewest banks that is cheap enough."""
    known = all_divisions(len(panel.banks))
    if found.division is not None and found.division not in known:
        return False
    asked = {division for division in known if found.division is None or division == found.division
             or len(set(division)) < len(set(found.division))}
    if set(found.means) != asked:
        return False
    for division, held in found.means.items():
        if not mean_shown(panel_divided(panel, division, rates), held):
            return False
        if (Fraction(*held.mean) <= Fraction(*limit)) != (division == found.division):
            return False
    return True


# Texts.

def split_text(text):
    """Give the lines, each without its line feed, and what follows the last one."""
    lines = re.findall(r"[^\n]*\n", text)
    return [line[:-1] for line in lines], text[len("".join(lines)):]


def is_panel_line(lines, row):
    """Tell whether a line of a panel is right after right lines."""
    line = lines[row]
    if row == 0:
        banks = re.fullmatch(r"banks((?: [0-2]){1,3})", line)
        return bool(banks) and sorted(set(banks[1].split())) == [str(bank) for bank in range(len(set(banks[1].split())))]
    banks = lines[0].split()[1:]
    if row == 1:
        return bool(re.fullmatch(r"bound [1-4]", line)) and (int(line[-1]) + 1) ** len(banks) <= 27
    if row == 2:
        return bool(re.fullmatch(r"prices" + r" [1-5]" * len(set(banks)), line))
    picture = f"[01]{{{len(banks)}}}"
    if row > 7 or not re.fullmatch(f"{picture}( {picture})+", line):
        return False
    first, *later = line.split()
    before = lines[row - 1].split()[0] if row > 3 else ""
    return before < first and later == sorted(set(later))


def panel_fault(text):
    """Give the row of the error for a text, None if it is the text of a panel."""
    lines, rest = split_text(text)
    for row in range(len(lines)):
        if not is_panel_line(lines, row):
            return row
    if len(lines) < 4 or rest:
        return len(lines)
    try:
        parts = [line.split() for line in lines]
        banks, bound, prices = [tuple(int(word) for word in words[1:]) for words in parts[:3]]
        Panel(banks, bound[0], prices, {words[0]: tuple(words[1:]) for words in parts[3:]})
    except BadPanel:
        return 3
    return None


def script_fault(panel, state, text):
    """Give the row of the error for a text, None if it is the text of a script with its sets."""
    lines, rest = split_text(text)
    for row, line in enumerate(lines):
        right = [(item, banks) for item in [*panel.follows[state[0]], "rest"] for banks in sets_for(panel, state, item)
                 if line == item + " " + (",".join(str(bank) for bank in banks) or "-")]
        if row > 7 or not right:
            return row
        state = next_state(panel, state, *right[0])
    return len(lines) if rest or not lines else None


def texts_near(text, signs):
    """List texts with one line, word, space or sign removed, changed or added."""
    found = [text[:at] + text[at + 1:] for at in range(len(text))]
    found += [text[:at] + sign + text[at + more:] for at in range(len(text) + 1) for sign in signs for more in (0, 1)]
    lines = text.splitlines(keepends=True)
    found += ["".join(lines[:at] + lines[at + 1:]) for at in range(len(lines))]
    found += ["".join(lines[:at] + [line] + lines[at:]) for at in range(len(lines) + 1) for line in lines]
    words = text.split(" ")
    found += [" ".join(words[:at] + words[at + 1:]) for at in range(len(words))]
    found += [" ".join(words[:at] + [words[at]] + words[at:]) for at in range(len(words))]
    return sorted({other for other in found if other != text})
