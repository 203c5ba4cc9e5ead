"""Pictures and pieces: told, turned, trimmed, written and read."""

from cellscript.errors import NoText
from cellscript.kinds import GROUND, SIGNS, is_made_of, is_spot, is_way, refuse_wrong

MOST = 32
LEFT_ALONE = "_"
MIRRORED = 4


def is_picture(thing):
    """Whether a thing is a list of 1 to 32 texts of signs, all of one length, 1 to 32."""
    return is_rows(thing, SIGNS, MOST)


def is_piece(thing):
    """Whether a thing is like a picture, perhaps with signs that leave what lies there."""
    return is_rows(thing, SIGNS + LEFT_ALONE, MOST)


def is_rows(thing, signs, most):
    """Whether a thing is a list of texts of these signs, all of one length, 1 to most each way."""
    if not isinstance(thing, list) or not 1 <= len(thing) <= most:
        return False
    if not all([is_made_of(row, signs) for row in thing]):
        return False
    return 1 <= len(thing[0]) <= most and all([len(row) == len(thing[0]) for row in thing])


def turned(piece, way):
    """A piece, turned by a way."""
    refuse_wrong(is_piece(piece), is_way(way))
    return rows_turned(piece, way)


def rows_turned(rows, way):
    """Rows of any signs, turned by a way."""
    rows = list(rows)
    if way >= MIRRORED:
        rows = [row[::-1] for row in rows]
    for _ in range(way % MIRRORED):
        rows = _turned_right(rows)
    return rows


def _turned_right(rows):
    upward = rows[::-1]
    return ["".join(column) for column in zip(*upward)]


def then(one, other):
    """The way that does what one way and then another one do."""
    refuse_wrong(is_way(one), is_way(other))
    # Mirroring makes of the quarters ahead of it as many to the left.
    quarters = other - one if other >= MIRRORED else other + one
    if (one >= MIRRORED) == (other >= MIRRORED):
        return quarters % MIRRORED
    return MIRRORED + quarters % MIRRORED


def back_of(way):
    """The way that leads back."""
    refuse_wrong(is_way(way))
    return way if way >= MIRRORED else -way % MIRRORED


def spots_of(piece, x, y):
    """The tuples (x, y, sign) of a piece with its left top at (x, y), by rows."""
    refuse_wrong(is_piece(piece), is_spot(x), is_spot(y))
    return [
        (x + right, y + down, sign)
        for down, row in enumerate(piece)
        for right, sign in enumerate(row)
        if sign != LEFT_ALONE
    ]


def trimmed(picture):
    """(x, y, picture) without the outer rows and columns of ground, None of ground alone."""
    refuse_wrong(is_picture(picture))
    return without_ground(picture)


def without_ground(rows):
    """What trimmed tells, of however many rows, of whatever length."""
    held = [down for down, row in enumerate(rows) if row.strip(GROUND) != ""]
    if held == []:
        return None
    kept = rows[held[0]:held[-1] + 1]
    left = min([len(row) - len(row.lstrip(GROUND)) for row in kept])
    right = max([len(row.rstrip(GROUND)) for row in kept])
    return left, held[0], [row[left:right] for row in kept]


def show_piece(piece):
    """The text of a piece."""
    refuse_wrong(is_piece(piece))
    return "/".join(piece)


def read_piece(text):
    """The piece that a text tells."""
    rows = text.split("/") if isinstance(text, str) else []
    if not is_piece(rows):
        raise NoText()
    return rows
