"""Texts of panels, states and scripts, written and read."""

from inkghost.checks import is_ascending, is_picture
from inkghost.errors import BadText
from inkghost.panels import MOST_PICTURES, Panel, are_banks, are_follows, are_prices, check_panel, is_bound
from inkghost.scripts import MOST_ITEMS, check_sets
from inkghost.states import check_state, is_state
from inkghost.steps import can_flash, is_item, state_at

DIGITS = "0123456789"
HEAD_LINES = 3


def words_of(values):
    """Give strings and numbers as words with one space between them."""
    return " ".join([str(value) for value in values])


def banks_text(banks):
    """Give the text of a set of banks."""
    if banks == ():
        return "-"
    return ",".join([str(bank) for bank in banks])


def panel_text(panel):
    """Give the text of a panel."""
    check_panel(panel)
    follows = panel.follows
    rows = [["banks", *panel.banks], ["bound", panel.bound], ["prices", *panel.prices]]
    rows.extend([[picture, *follows[picture]] for picture in follows])
    return "".join([words_of(row) + "\n" for row in rows])


def state_text(panel, state):
    """Give the text of a state."""
    check_state(panel, state)
    shown, ghosts = state
    return words_of([shown, *ghosts])


def script_text(panel, state, script, sets):
    """Give the text of a script with its sets of banks."""
    check_sets(panel, state, script, sets)
    return "".join([words_of([item, banks_text(banks)]) + "\n" for item, banks in zip(script, sets)])


def digits_of(words):
    """Give the tuple of the numbers that words with one digit are, or None if one of them is not such a word."""
    if not all([len(word) == 1 and word in DIGITS for word in words]):
        return None
    return tuple([int(word) for word in words])


def lines_of(text):
    """Give the list of the lines of a text, and the characters that follow the last line feed."""
    if not isinstance(text, str):
        raise BadText(0)
    parts = text.split("\n")
    return parts[:-1], parts[-1]


def numbers_at(lines, row, name):
    """Give the tuple of the numbers of a line that begins with a name, or None if there is no such line."""
    if row >= len(lines):
        return None
    first, *words = lines[row].split(" ")
    if first != name:
        return None
    return digits_of(words)


def read_head(lines):
    """Give the banks, the bound and the prices in the first lines of a panel."""
    banks = numbers_at(lines, 0, "banks")
    if not are_banks(banks):
        raise BadText(0)
    bounds = numbers_at(lines, 1, "bound")
    if bounds is None or len(bounds) != 1 or not is_bound(bounds[0], len(banks)):
        raise BadText(1)
    prices = numbers_at(lines, 2, "prices")
    if not are_prices(prices, max(banks) + 1):
        raise BadText(2)
    return banks, bounds[0], prices


def is_pictures_line(pictures, cells, known):
    """Tell whether words are a picture after the known ones, and one or more ascending ones that can follow."""
    if not all([is_picture(picture, cells) for picture in pictures]):
        return False
    first, *later = pictures
    return len(known) < MOST_PICTURES and first > max(known, default="") and later != [] and is_ascending(later)


def read_follows(lines, cells):
    """Give the dict of the pictures that follow in the other lines of a panel."""
    follows = {}
    for row in range(HEAD_LINES, len(lines)):
        pictures = lines[row].split(" ")
        if not is_pictures_line(pictures, cells, follows):
            raise BadText(row)
        follows[pictures[0]] = tuple(pictures[1:])
    return follows


def read_panel(text):
    """Give the panel of a text."""
    lines, rest = lines_of(text)
    banks, bound, prices = read_head(lines)
    follows = read_follows(lines, len(banks))
    if follows == {} or rest != "":
        raise BadText(len(lines))
    if not are_follows(follows, len(banks)):
        raise BadText(HEAD_LINES)
    return Panel(banks, bound, prices, follows)


def read_state(panel, text):
    """Give the state of a text."""
    check_panel(panel)
    if not isinstance(text, str):
        raise BadText(0)
    shown, *words = text.split(" ")
    state = (shown, digits_of(words))
    if not is_state(panel, state):
        raise BadText(0)
    return state


def read_banks(word):
    """Give the numbers in the text of a set of banks, or None if it is not such a text."""
    if word == "-":
        return ()
    return digits_of(word.split(","))


def read_script(panel, state, text):
    """Give the script of a text and its sets of banks."""
    check_state(panel, state)
    lines, rest = lines_of(text)
    script = []
    sets = []
    for row, line in enumerate(lines):
        item, space, word = line.partition(" ")
        banks = read_banks(word)
        if row == MOST_ITEMS or not is_item(panel, state[0], item) or not can_flash(panel, state, item, banks):
            raise BadText(row)
        script.append(item)
        sets.append(banks)
        state = state_at(panel, state, item, banks)
    if lines == [] or rest != "":
        raise BadText(len(lines))
    return script, sets
