"""Seeking all pictures of a size that have a paper."""

from cellscript.errors import TooMany
from cellscript.kinds import GROUND, texts_of
from cellscript.patterns import paper_learned, refuse_cells

MOST_PICTURES = 256


def search(rule, wide, high, most):
    """All pictures of this size whose cells have a paper of at most so many turns: tuples (rows, paper)."""
    refuse_cells(rule, [])
    _refuse_many(rule, wide * high)
    told, learned = [], {}
    for text in texts_of(rule.signs(), wide * high):
        rows = [text[at:at + wide] for at in range(0, wide * high, wide)]
        if _begins(rows):
            paper = paper_learned(rule, _cells_of(rows), most, learned)
            if paper is not None:
                told.append((tuple(rows), paper))
    return told


def _refuse_many(rule, long):
    many = 1
    for _ in range(long):
        many *= rule.many()
    if many > MOST_PICTURES:
        raise TooMany(MOST_PICTURES)


def _begins(rows):
    """Whether there is something in the first row and in the first column."""
    return rows[0].strip(GROUND) != "" and "".join([row[0] for row in rows]).strip(GROUND) != ""


def _cells_of(rows):
    return [(x, y, sign) for y, row in enumerate(rows) for x, sign in enumerate(row) if sign != GROUND]
