"""Forebears of pictures on a strip and of closed rows: how many, which, and papers that there are none."""

from cellscript.errors import NoForebear
from cellscript.strips import (
    are_states, columns_by_number, columns_of, many_from, pick, refuse_strip, ring_steps, rows_of, states_of,
    states_that_come, strip_steps, ways_through,
)


def how_many(rule, edge, rows):
    """How many forebears a picture has, between edges of a sign."""
    refuse_strip(rule, [edge, *rows], len(rows))
    return sum(_ways_of(rule, strip_steps(rule, edge, len(rows)), rows)[0].values())


def forebear(rule, edge, rows, number):
    """The forebear of a picture by its number: its rows."""
    refuse_strip(rule, [edge, *rows], len(rows))
    steps = strip_steps(rule, edge, len(rows))
    ways, states = _ways_of(rule, steps, rows), states_of(rule, len(rows))
    counts = [ways[0].get(state, 0) for state in states]
    _refuse_no_forebear(number, sum(counts))
    at, left = pick(counts, number)
    others = columns_of(rule, len(rows))
    behind = columns_by_number(steps, _seen_columns(rows), others, [(ways, states[at])], left)
    return rows_of([*states[at], *behind])


def none_of(rule, edge, rows):
    """The paper that a picture has no forebears, None where it has some."""
    refuse_strip(rule, [edge, *rows], len(rows))
    steps = strip_steps(rule, edge, len(rows))
    paper = [states_of(rule, len(rows))]
    for column in _seen_columns(rows):
        paper.append(states_that_come(steps, paper[-1], column))
        if paper[-1] == []:
            return paper
    return None


def none_holds(rule, edge, rows, paper):
    """Whether a paper, whatever it is, shows that a picture has no forebears."""
    refuse_strip(rule, [edge, *rows], len(rows))
    columns = _seen_columns(rows)
    if not isinstance(paper, list) or not 1 <= len(paper) <= len(columns) + 1:
        return False
    if not all([are_states(states, rule.signs(), len(rows)) for states in paper]):
        return False
    bare = [at for at, states in enumerate(paper) if states == []]
    if paper[0] != states_of(rule, len(rows)) or bare != [len(paper) - 1]:
        return False
    steps = strip_steps(rule, edge, len(rows))
    for ahead, behind, column in zip(paper, paper[1:], columns):
        if not all([state in behind for state in states_that_come(steps, ahead, column)]):
            return False
    return True


def _refuse_no_forebear(number, total):
    if not 0 <= number < total:
        raise NoForebear(number, total)


def _seen_columns(rows):
    return ["".join(column) for column in zip(*rows)]


def _ways_of(rule, steps, rows):
    ends = {state: 1 for state in states_of(rule, len(rows))}
    return ways_through(steps, _seen_columns(rows), ends)


def ring_how_many(rule, row):
    """How many closed rows become this one."""
    refuse_strip(rule, [row], 1)
    return many_from(_ring_starts(rule, ring_steps(rule), row), 0)


def ring_forebear(rule, row, number):
    """The closed row, by its number, that becomes this one."""
    refuse_strip(rule, [row], 1)
    steps = ring_steps(rule)
    starts = _ring_starts(rule, steps, row)
    _refuse_no_forebear(number, many_from(starts, 0))
    # A start is the last sign and the first one, of which the first one tells the order.
    signs = columns_of(rule, 1)
    by_first = [[start for start in starts if start[1][1] == sign] for sign in signs]
    at, left = pick([many_from(held, 0) for held in by_first], number)
    behind = columns_by_number(steps, list(row), signs, by_first[at], left)
    # Behind the last sign the first one comes again.
    return signs[at] + "".join(behind[:-1])


def _ring_starts(rule, steps, row):
    """Tuples (ways, state): the ways from each state, last and first sign of a row, round to itself."""
    return [(ways_through(steps, list(row), {state: 1}), state) for state in states_of(rule, 1)]
