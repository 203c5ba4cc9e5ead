"""Cells that are clear of each other for ever."""

from cellscript.patterns import MOST_PAPER, fields_behind, paper_learned, refuse_cells

GAP = 3
AXES = ("x", "y")


def clear_of(rule, one, other, most):
    """(axis, first) where two lists of cells are clear of each other, None where they aren't."""
    refuse_cells(rule, one)
    refuse_cells(rule, other)
    papers = [paper_learned(rule, cells, min(most, MOST_PAPER), {}) for cells in (one, other)]
    if None in papers:
        return None
    turns = _least_of_both(papers[0][1], papers[1][1])
    if turns > most:
        return None
    frames = [
        [field.frame() for field in fields_behind(rule, cells, turns - 1)]
        for cells in (one, other)
    ]
    for at, axis in enumerate(AXES):
        far = [paper[2 + at] * (turns // paper[1]) for paper in papers]
        if far[0] >= far[1] and all_beyond(frames[0], frames[1], at, 1):
            return axis, True
        if far[1] >= far[0] and all_beyond(frames[1], frames[0], at, 1):
            return axis, False
    return None


def _least_of_both(one, other):
    """The least number that both divide."""
    told = one
    while told % other != 0:
        told += one
    return told


def all_beyond(frames, others, at, way):
    """Whether each frame lies at least 3 beyond the other one of its turn.

    at is 0 on the axis x, 1 on y; way is 1 or -1.
    """
    for frame, other in zip(frames, others):
        gap = frame[at] - other[at + 2] if way == 1 else other[at] - frame[at + 2]
        if gap < GAP:
            return False
    return True
