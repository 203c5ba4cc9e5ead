"""Texts of deeds and of logs: written and read."""

from cellscript.books import Book
from cellscript.deeds import DEEDS, is_deed
from cellscript.errors import CellError, NoLog, NoText
from cellscript.parts import read_parts, show_part


def _as_written(word, parts):
    """The parts of a deed in the order of its text, or back: what is fed stands ahead of the machine there."""
    if word != "lay":
        return list(parts)
    return [*parts[:3], parts[4], parts[3]]


def show_deed(deed):
    """The text of a deed: a row."""
    word, *parts = deed
    kinds = _as_written(word, DEEDS[word])
    shown = [show_part(part, kind) for part, kind in zip(_as_written(word, parts), kinds)]
    return " ".join([word, *shown])


def read_deed(text):
    """The deed that a text tells."""
    words = text.split(" ") if isinstance(text, str) else [""]
    if words[0] not in DEEDS:
        raise NoText()
    parts = read_parts(words[1:], _as_written(words[0], DEEDS[words[0]]))
    if parts is None:
        raise NoText()
    deed = (words[0], *_as_written(words[0], parts))
    if not is_deed(deed):
        raise NoText()
    return deed


def show_log(book):
    """The text of the log of a book."""
    return "".join([show_deed(deed) + "\n" for deed in book.log()])


def book_of(text):
    """The book that comes up of the text of a log."""
    if not isinstance(text, str):
        raise NoLog(0)
    *rows, left = text.split("\n")
    deeds = [_deed_or_no_log(row, at) for at, row in enumerate(rows)]
    if left != "":
        raise NoLog(len(rows))
    book = Book()
    for at, deed in enumerate(deeds):
        _do_or_no_log(book, deed, at)
    return book


def _deed_or_no_log(row, at):
    try:
        return read_deed(row)
    except NoText:
        raise NoLog(at)


def _do_or_no_log(book, deed, at):
    try:
        book.do(deed)
    except CellError:
        raise NoLog(at)
