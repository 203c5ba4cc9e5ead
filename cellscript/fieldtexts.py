"""Texts of fields: written and read."""

from cellscript.errors import NoText
from cellscript.fields import MOST_WIDE, Field
from cellscript.kinds import SIGNS, is_sign
from cellscript.pictures import is_picture, is_rows, without_ground
from cellscript.ruletexts import read_number


def show_field(field):
    """The text of a field."""
    left, top, rows = field.area()
    words = [field.kind(), str(field.turn())]
    if field.kind() == "box":
        words.append(field.edge())
    if field.kind() == "endless" and rows != []:
        words.extend([str(left), str(top)])
    if rows != []:
        words.append("/".join(rows))
    return " ".join(words)


def read_field(text):
    """The field that a text tells."""
    words = text.split(" ") if isinstance(text, str) else [""]
    turn = read_number(words[1]) if len(words) > 1 else None
    if turn is None:
        raise NoText()
    if words[0] == "endless":
        return _read_endless(turn, words[2:])
    if words[0] == "torus" and len(words) == 3:
        return _read_framed("torus", turn, None, words[2])
    if words[0] == "box" and len(words) == 4 and is_sign(words[2]):
        return _read_framed("box", turn, words[2], words[3])
    raise NoText()


def _read_endless(turn, words):
    if words == []:
        return Field("endless", turn, None, 0, 0, [])
    if len(words) != 3:
        raise NoText()
    left, top, rows = read_below(words[0]), read_below(words[1]), words[2].split("/")
    if left is None or top is None or not is_rows(rows, SIGNS, MOST_WIDE):
        raise NoText()
    # A frame has no ground alone at its sides.
    if without_ground(rows) != (0, 0, rows):
        raise NoText()
    return Field("endless", turn, None, left, top, rows)


def _read_framed(sort, turn, edge, text):
    rows = text.split("/")
    if not is_picture(rows):
        raise NoText()
    return Field(sort, turn, edge, 0, 0, rows)


def read_below(text):
    """The number, perhaps below 0, that a text tells, or None."""
    if not text.startswith("-"):
        return read_number(text)
    number = read_number(text[1:])
    return None if number is None or number == 0 else -number
