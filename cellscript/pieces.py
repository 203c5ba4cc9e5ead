"""Squares of eight by eight cells, and their hearts: their middles two turns later."""

from cellscript.kinds import GROUND, SIGNS, is_made_of
from cellscript.plain import BESIDE, row_turned

LONG = 8
AROUND_HEART = 2
BARE_OUTSIDE = ":"


def heart_of(rule, square, odd):
    """The heart of a square, odd telling whether the first of the two turns is an odd one."""
    return heart_learned(rule, square, odd, {})


def heart_learned(rule, square, odd, learned):
    """The heart of a square; learned is as in area_turned."""
    turn = 1 if odd else 0
    rows = _turned_inside(rule, square, turn, learned)
    rows = _turned_inside(rule, rows, turn + 1, learned)
    inner = LONG - AROUND_HEART
    return tuple([row[AROUND_HEART:inner] for row in rows[AROUND_HEART:inner]])


def outside_of(sign):
    """What stands in a square for a cell of this sign outside of a box."""
    return BARE_OUTSIDE if sign == GROUND else sign.upper()


def _inside_of(row):
    return row.replace(BARE_OUTSIDE, GROUND).lower()


def _turned_inside(rule, rows, turn, learned):
    """The rows of a square a turn later, the outer ones not looked at."""
    if rule.kind() == "blocks":
        return _blocks_inside(rule, rows, turn, learned)
    seen = [_inside_of(row) for row in rows]
    told = [rows[0]]
    for y in range(1, LONG - 1):
        columns = [seen[y][1:LONG - 1]]
        for place in rule.near():
            dx, dy = BESIDE[place]
            columns.append(seen[y + dy][1 + dx:LONG - 1 + dx])
        if rule.kind() == "halves":
            row = row_turned(rule, columns, (1 + y + turn) % 2, 2, learned)
        else:
            row = row_turned(rule, columns, 0, 1, learned)
        told.append(rows[y][0] + _beside_standing(rows[y][1:LONG - 1], row) + rows[y][LONG - 1])
    return [*told, rows[LONG - 1]]


def _beside_standing(row, later):
    """A row a turn later, but that what lies outside of a box stands."""
    return "".join([new if old in SIGNS else old for old, new in zip(row, later)])


def _blocks_inside(rule, rows, turn, learned):
    grid = [list(row) for row in rows]
    for y in range(turn % 2, LONG - 1, 2):
        for x in range(turn % 2, LONG - 1, 2):
            four = rows[y][x:x + 2] + rows[y + 1][x:x + 2]
            if is_made_of(four, SIGNS):
                if four not in learned:
                    learned[four] = rule.block(four)
                grid[y][x], grid[y][x + 1], grid[y + 1][x], grid[y + 1][x + 1] = learned[four]
    return ["".join(row) for row in grid]
