"""Desks: a book that is told rows, and answers."""

from cellscript.books import Book
from cellscript.deeds import DEEDS
from cellscript.errors import NoLine, NoText
from cellscript.fieldtexts import read_below
from cellscript.kinds import is_spot
from cellscript.laying import read_off
from cellscript.logs import read_deed, show_deed, show_log
from cellscript.machine import NOTHING, show_bits
from cellscript.parts import read_parts
from cellscript.patterns import paper_of
from cellscript.pictures import show_piece

NONE = "none"
MOST_APART = 60
MOST_CELLS = 400
# The parts of each row that is no deed's, behind its word.
ROWS = {
    "back": (),
    "again": (),
    "names": (),
    "cell": ("word", "spot", "spot"),
    "picture": ("word", "spot", "spot", "size", "size"),
    "turn": ("word",),
    "many": ("word",),
    "paper": ("word", "most"),
    "reads": ("word", "spot", "spot", "turns", "machine"),
    "log": (),
}


class Desk:
    """A desk: its book is changed by the rows that it is told."""

    def __init__(self):
        self._book = Book()

    def say(self, row):
        """The answer to a row."""
        return answer(self._book, row)

    def book(self):
        """The book, copied."""
        return self._book.copied()


def answer(book, row):
    """What a desk of a book answers to a row; the book is changed as the row tells."""
    words = row.split(" ") if isinstance(row, str) else [""]
    if words[0] in DEEDS:
        book.do(_deed_of(row))
        return "ok"
    if words[0] == "instead":
        return _instead(book, " ".join(words[1:]))
    if words[0] not in ROWS:
        raise NoLine()
    parts = read_parts(words[1:], ROWS[words[0]])
    if parts is None:
        raise NoLine()
    if words[0] == "back":
        return show_deed(book.back())
    if words[0] == "again":
        return show_deed(book.again())
    return _told(book, words[0], parts)


def _deed_of(row):
    try:
        return read_deed(row)
    except NoText:
        raise NoLine()


def _instead(book, text):
    place, _, row = text.partition(" ")
    at = read_below(place)
    if at is None:
        raise NoLine()
    names = book.instead(at, _deed_of(row))
    return NONE if names == [] else " ".join(names)


def _listed(shown):
    """Parts of an answer that are alike."""
    return NONE if shown == [] else ", ".join(shown)


def _told(book, word, parts):
    """The answer to a row that asks."""
    if word == "names":
        return _listed([" ".join(pair) for pair in book.names()])
    if word == "log":
        return show_log(book)
    name, *asked = parts
    field = book.field(name)
    if word == "cell":
        return field.sign_at(asked[0], asked[1])
    if word == "picture":
        return show_piece(field.picture(asked[0], asked[1], asked[2], asked[3]))
    if word == "turn":
        return str(field.turn())
    if word == "many":
        return str(len(field))
    if word == "paper":
        return _paper(book.rule_of(name), field, asked[0])
    return _reads(field, asked)


def _paper(rule, field, most):
    paper = paper_of(rule, field.cells(), most) if _are_cells(field) else None
    return NONE if paper is None else " ".join([str(part) for part in paper])


def _are_cells(field):
    """Whether a field is endless, and its cells such as a paper is told of."""
    frame = field.frame()
    if field.kind() != "endless" or frame is None or len(field) > MOST_CELLS:
        return False
    left, top, right, bottom = frame
    if max(right - left, bottom - top) > MOST_APART:
        return False
    return all([is_spot(number) for number in frame])


def _reads(field, asked):
    if field.kind() != "endless":
        return NONE
    x, y, turns, machine = asked
    bits = read_off(field, machine, x, y, turns)
    return _listed([f"{name}={show_bits(bits[name]) or NOTHING}" for name in sorted(bits)])
