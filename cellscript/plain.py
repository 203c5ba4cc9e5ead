"""The plain run of a field by a rule, turn by turn."""

from cellscript.errors import Odd, Restless, Strange, TooFar
from cellscript.fields import MOST_WIDE, Field
from cellscript.kinds import GROUND, is_from_to, refuse_wrong
from cellscript.rules import Rule

MOST_TURNS = 100
BESIDE = {
    "n": (0, -1), "ne": (1, -1), "e": (1, 0), "se": (1, 1),
    "s": (0, 1), "sw": (-1, 1), "w": (-1, 0), "nw": (-1, -1),
}


def fits(rule, field, turns):
    """Refuses what a run of so many turns is refused with."""
    refuse_wrong_run(rule, field, turns)
    refuse_run(rule, field, turns)


def step(rule, field):
    """The field behind one turn."""
    return run(rule, field, 1)


def run(rule, field, turns):
    """The field behind so many turns."""
    fits(rule, field, turns)
    learned = {}
    for _ in range(turns):
        field = next_field(rule, field, learned)
    return field


def next_field(rule, field, learned):
    """The field behind one turn, not refused; learned as in area_turned."""
    left, top, rows = area_turned(rule, field, field.turn(), learned)
    return field.remade(field.turn() + 1, left, top, rows)


def refuse_wrong_run(rule, field, turns):
    """Refuses what is no rule, no field, or no number of turns."""
    refuse_wrong(isinstance(rule, Rule), isinstance(field, Field), is_from_to(turns, 0, MOST_TURNS))


def refuse_run(rule, field, turns):
    """Refuses a run by what the field is at its beginning."""
    rows = field.area()[2]
    edge = GROUND if field.edge() is None else field.edge()
    for sign in sorted(set("".join(rows) + edge)):
        if sign not in rule.signs():
            raise Strange(sign)
    if field.kind() == "endless" and not rule.keeps_ground():
        raise Restless()
    if field.kind() == "torus" and rule.kind() != "around":
        if field.wide() % 2 == 1 or field.high() % 2 == 1:
            raise Odd()
    if field.kind() == "endless" and rows != []:
        if max(len(rows), len(rows[0])) + 2 * turns > MOST_WIDE:
            raise TooFar(MOST_WIDE)


def area_turned(rule, field, turn, learned):
    """(left, top, rows) of a field when its cells have turned as they do at a turn.

    What cells and blocks become is looked up in learned, a dict, and where it isn't
    there it is asked of the rule and kept there.
    """
    left, top, rows = field.area()
    if rows == []:
        return left, top, rows
    if field.kind() == "endless":
        left, top, rows = left - 1, top - 1, _ringed(rows, GROUND)
    if rule.kind() == "blocks":
        shift = (left + turn) % 2, (top + turn) % 2
        return left, top, _blocks_turned(rule, rows, shift, field.kind() == "torus", learned)
    ring = _ring_of(field, rows)
    told = []
    for at, row in enumerate(rows):
        columns = [row]
        for place in rule.near():
            dx, dy = BESIDE[place]
            columns.append(ring[at + 1 + dy][1 + dx:1 + dx + len(row)])
        if rule.kind() == "halves":
            told.append(row_turned(rule, columns, (left + top + at + turn) % 2, 2, learned))
        else:
            told.append(row_turned(rule, columns, 0, 1, learned))
    return left, top, told


def _ringed(rows, sign):
    """Rows with one more cell of a sign all around."""
    wide = [sign + row + sign for row in rows]
    bare = sign * len(wide[0])
    return [bare, *wide, bare]


def _ring_of(field, rows):
    """Rows of a field with one more cell all around, as they stand there."""
    if field.kind() != "torus":
        return _ringed(rows, GROUND if field.edge() is None else field.edge())
    wide = [row[-1] + row + row[0] for row in rows]
    return [wide[-1], *wide, wide[0]]


def row_turned(rule, columns, first, apart, learned):
    """A row, the first of columns, of which each cell from first on, so far apart, becomes another.

    The other columns are what stands at the near places of each cell.
    """
    row = list(columns[0])
    looked_at = [column[first::apart] for column in columns]
    for at, key in enumerate(zip(*looked_at)):
        if key not in learned:
            learned[key] = rule.becomes(key[0], "".join(key[1:]))
        row[first + apart * at] = learned[key]
    return "".join(row)


def _blocks_turned(rule, rows, shift, goes_round, learned):
    """Rows of which each whole block, the first of them at shift, becomes another."""
    grid = [list(row) for row in rows]
    wide, high = len(rows[0]), len(rows)
    for y in range(shift[1], high, 2):
        for x in range(shift[0], wide, 2):
            right, down = (x + 1) % wide, (y + 1) % high
            if goes_round or (right > x and down > y):
                four = rows[y][x] + rows[y][right] + rows[down][x] + rows[down][right]
                if four not in learned:
                    learned[four] = rule.block(four)
                grid[y][x], grid[y][right], grid[down][x], grid[down][right] = learned[four]
    return ["".join(row) for row in grid]
