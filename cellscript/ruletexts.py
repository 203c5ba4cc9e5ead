"""Texts of rules: written and read."""

from cellscript.errors import BadRow, NoText, Wrong
from cellscript.kinds import is_made_of, is_place
from cellscript.rules import Rule

FIGURES = "0123456789"
MOST_FIGURES = 10
ARROW = "->"


def show_rule(rule):
    """The text of a rule."""
    near = rule.near()
    head = " ".join([rule.kind(), str(rule.many()), *near])
    if rule.kind() == "blocks":
        rows = [_show_block_row(row) for row in rule.rows()]
    else:
        rows = [_show_cell_row(row) for row in rule.rows()]
    return "\n".join([head, *rows])


def _show_block_row(row):
    fours, four = row
    return " ".join([*fours, ARROW, four])


def _show_cell_row(row):
    own, tests, sign = row
    shown = [_show_test(test) for test in tests]
    return " ".join([own, *shown, ARROW, sign])


def _show_test(test):
    if test[0] == "at":
        return f"{test[1]}={test[2]}"
    return f"{test[1]}-{test[2]}={test[3]}"


def read_rule(text):
    """The rule that a text tells."""
    lines = text.split("\n") if isinstance(text, str) else [""]
    words = lines[0].split(" ")
    if len(words) < 2:
        raise NoText()
    sort, many, *near = words
    if sort == "blocks":
        rows = [_read_block_row(line) for line in lines[1:]]
    else:
        rows = [_read_cell_row(line) for line in lines[1:]]
    try:
        return Rule(sort, read_number(many), tuple(near), rows)
    except (Wrong, BadRow):
        raise NoText()


def _read_block_row(line):
    words = line.split(" ")
    if len(words) != 6 or words[4] != ARROW:
        return None
    return tuple(words[:4]), words[5]


def _read_cell_row(line):
    words = line.split(" ")
    if len(words) < 3 or words[-2] != ARROW:
        return None
    return words[0], tuple([_read_test(word) for word in words[1:-2]]), words[-1]


def _read_test(word):
    head, _, signs = word.partition("=")
    if is_place(head):
        return "at", head, signs
    low, _, high = head.partition("-")
    return "count", read_number(low), read_number(high), signs


def read_number(text):
    """The number that a text of at most ten figures tells, without a nought ahead, or None."""
    if not is_made_of(text, FIGURES) or not 1 <= len(text) <= MOST_FIGURES:
        return None
    if text[0] == "0" and text != "0":
        return None
    return int(text)
