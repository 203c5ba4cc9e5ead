"""Cells that shoot for ever."""

from cellscript.clear import all_beyond
from cellscript.kinds import is_alike, is_from_to
from cellscript.patterns import fields_behind, paper_learned, refuse_cells, shift_fits

MOST_TURNS = 30
MOST_APART = 60
# Shots that come one behind another have so many bare cells between them, at least.
BARE = 2


def gun_of(rule, cells, most):
    """("shooting", p, shot, q, dx, dy) where cells shoot, by at most so many turns, else None."""
    refuse_cells(rule, cells)
    fields = fields_behind(rule, cells, most)
    for turns in range(1, most + 1):
        if shift_fits(rule, turns, 0, 0):
            shot = _shot_of(cells, fields[turns].cells())
            paper = _paper_of_shot(rule, shot, turns)
            if paper is not None and _goes_off(rule, fields[:turns], shot, paper):
                return "shooting", turns, shot, paper[1], paper[2], paper[3]
    return None


def gun_holds(rule, cells, paper):
    """Whether a paper, whatever it is, is what gun_of tells of cells by its own turns."""
    refuse_cells(rule, cells)
    if not isinstance(paper, tuple) or len(paper) != 6 or not is_from_to(paper[1], 1, MOST_TURNS):
        return False
    return is_alike(paper, gun_of(rule, cells, paper[1]))


def _shot_of(cells, later):
    """What is there later beside the cells; no cells where one of them isn't there, or these are too wide."""
    known = {cell: True for cell in later}
    for cell in cells:
        if cell not in known:
            return []
    first = {cell: True for cell in cells}
    shot = [cell for cell in later if cell not in first]
    across, down = [cell[0] for cell in shot], [cell[1] for cell in shot]
    if shot != [] and max(max(across) - min(across), max(down) - min(down)) > MOST_APART:
        return []
    return shot


def _paper_of_shot(rule, shot, turns):
    """The moving paper of a shot whose turns divide these, None where it has none such."""
    paper = paper_learned(rule, shot, turns, {})
    if paper is None or paper[0] != "moving" or turns % paper[1] != 0:
        return None
    return paper


def _goes_off(rule, fields, shot, paper):
    """Whether a shot stays beyond the cells, whose fields these are, and beyond the shot that comes next."""
    _, turns, dx, dy = paper
    at = 0 if abs(dx) >= abs(dy) else 1
    far = paper[2 + at]
    frames = [field.frame() for field in fields_behind(rule, shot, len(fields) - 1)]
    if not all_beyond(frames, [field.frame() for field in fields], at, 1 if far > 0 else -1):
        return False
    broad = max([frame[at + 2] - frame[at] + 1 for frame in frames[:turns]])
    return abs(far) * (len(fields) // turns) >= broad + BARE
