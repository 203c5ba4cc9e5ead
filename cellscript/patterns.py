"""Cells that stand, turn or move for ever, told with a paper, and cells that lie apart."""

from cellscript.errors import Restless, Strange
from cellscript.fields import Field
from cellscript.kinds import is_alike, is_from_to
from cellscript.plain import next_field

MOST_PAPER = 40


def refuse_cells(rule, cells):
    """Refuses cells of which the rule hasn't a sign, and a rule that doesn't keep the ground."""
    for sign in sorted({cell[2] for cell in cells}):
        if sign not in rule.signs():
            raise Strange(sign)
    if not rule.keeps_ground():
        raise Restless()


def laid_cells_of(cells):
    """Cells, wherever they are, laid at turn 0 on an endless field."""
    return Field("endless", 0, None, 0, 0, []).laid(cells)


def fields_behind(rule, cells, turns):
    """The fields of cells behind each turn, from 0 on."""
    told, learned = [laid_cells_of(cells)], {}
    for _ in range(turns):
        told.append(next_field(rule, told[-1], learned))
    return told


def shift_fits(rule, turns, dx, dy):
    """Whether what is moved and so many turns later goes on by a rule as it did."""
    if rule.kind() == "halves":
        return (turns + dx + dy) % 2 == 0
    return rule.kind() == "around" or ((turns + dx) % 2 == 0 and (turns + dy) % 2 == 0)


def paper_of(rule, cells, most):
    """The paper of cells, of at most so many turns, None where they have none."""
    refuse_cells(rule, cells)
    return paper_learned(rule, cells, most, {})


def paper_learned(rule, cells, most, learned):
    """What paper_of tells, not refused; learned is as in area_turned."""
    field = laid_cells_of(cells)
    left, top, rows = field.area()
    if rows == []:
        return None
    resting = True
    for turns in range(1, most + 1):
        field = next_field(rule, field, learned)
        right, down, later = field.area()
        dx, dy = right - left, down - top
        resting = resting and (dx, dy, later) == (0, 0, rows)
        if later == rows and shift_fits(rule, turns, dx, dy):
            return _word_of(dx, dy, resting), turns, dx, dy
    return None


def _word_of(dx, dy, resting):
    if (dx, dy) != (0, 0):
        return "moving"
    return "still" if resting else "turning"


def paper_holds(rule, cells, paper):
    """Whether a paper, whatever it is, is the one that is told of cells by its own turns."""
    refuse_cells(rule, cells)
    if not isinstance(paper, tuple) or len(paper) != 4 or not is_from_to(paper[1], 1, MOST_PAPER):
        return False
    return is_alike(paper, paper_of(rule, cells, paper[1]))


def where_at(rule, cells, paper, turn):
    """The cells behind so many turns, by their paper."""
    refuse_cells(rule, cells)
    _, turns, dx, dy = paper
    many = turn // turns
    field = fields_behind(rule, cells, turn % turns)[-1]
    return [(x + many * dx, y + many * dy, sign) for x, y, sign in field.cells()]


def apart(one, other, by):
    """Whether each cell of one is farther than that from each cell of the other."""
    for x, y, _ in one:
        for other_x, other_y, _ in other:
            if max(abs(x - other_x), abs(y - other_y)) <= by:
                return False
    return True
