"""Strips: what three columns make of the middle one in a turn, and the ways of columns through that.

steps are dicts: by a column that is made, by a state (one, middle), the columns other for which one,
middle and other make it. ways are lists of dicts: by a state, how many ways lead from it to an end.
"""

from cellscript.errors import NotAround, Strange, TooMany
from cellscript.kinds import is_text_of, texts_of
from cellscript.plain import BESIDE

MOST_STATES = 64


def refuse_strip(rule, texts, high):
    """Refuses a rule of another sort, signs of texts that it hasn't, and a strip with too many states."""
    if rule.kind() != "around":
        raise NotAround()
    for sign in sorted(set("".join(texts))):
        if sign not in rule.signs():
            raise Strange(sign)
    columns = 1
    for _ in range(high):
        columns *= rule.many()
    if columns ** 2 > MOST_STATES:
        raise TooMany(MOST_STATES)


def columns_of(rule, high):
    """All columns of a strip so high, in their order."""
    return texts_of(rule.signs(), high)


def states_of(rule, high):
    """All states of a strip so high, in their order."""
    columns = columns_of(rule, high)
    return [(one, other) for one in columns for other in columns]


def are_states(thing, signs, high):
    """Whether a thing is a list of states, rising."""
    if not isinstance(thing, list) or not all([_is_state(state, signs, high) for state in thing]):
        return False
    return thing == sorted(set(thing))


def _is_state(thing, signs, high):
    if not isinstance(thing, tuple) or len(thing) != 2:
        return False
    return is_text_of(thing[0], signs, high) and is_text_of(thing[1], signs, high)


def strip_steps(rule, edge, high):
    """The steps of a strip between rows of an edge sign."""
    return _steps(rule, {column: edge + column + edge for column in columns_of(rule, high)})


def ring_steps(rule):
    """The steps of a row that is a torus: above and below a cell is the cell itself."""
    return _steps(rule, {column: column * 3 for column in columns_of(rule, 1)})


def _steps(rule, tall):
    """The steps of columns, each with what stands above and below it in tall."""
    told, learned = {}, {}
    for one in tall:
        for middle in tall:
            for other in tall:
                made = _made_of(rule, (tall[one], tall[middle], tall[other]), learned)
                told.setdefault(made, {}).setdefault((one, middle), []).append(other)
    return told


def _made_of(rule, tall, learned):
    """The column that the middle one of three tall columns becomes."""
    sides = [BESIDE[place] for place in rule.near()]
    signs = []
    for at in range(1, len(tall[1]) - 1):
        own, around = tall[1][at], "".join([tall[1 + dx][at + dy] for dx, dy in sides])
        if (own, around) not in learned:
            learned[(own, around)] = rule.becomes(own, around)
        signs.append(learned[(own, around)])
    return "".join(signs)


def states_that_come(steps, states, column):
    """The sorted list of the states that come of states where a column is made."""
    following = steps.get(column, {})
    return sorted({(state[1], other) for state in states for other in following.get(state, [])})


def rows_of(columns):
    """The rows of a picture, by its columns."""
    return ["".join(row) for row in zip(*columns)]


def ways_through(steps, columns, ends):
    """The ways from ahead of each column, and behind the last, on which the columns are made, to ends."""
    ways = [ends]
    for column in reversed(columns):
        ways.append(_ways_ahead(steps, column, ways[-1]))
    return ways[::-1]


def _ways_ahead(steps, column, behind):
    following = steps.get(column, {})
    return {
        state: sum([behind.get((state[1], other), 0) for other in others])
        for state, others in following.items()
    }


def many_from(starts, at):
    """How many ways lead on from starts, tuples (ways, state), from ahead of the column at a place on."""
    return sum([ways[at].get(state, 0) for ways, state in starts])


def pick(counts, number):
    """(at, left): in which of counts, one behind another, a number lies, and how far behind its beginning."""
    at = 0
    while number >= counts[at]:
        number -= counts[at]
        at += 1
    return at, number


def columns_by_number(steps, columns, others, starts, number):
    """Of all ways on from starts the one of a number: its columns, each one of others.

    They go in the order of others, column by column; there are more of them than that number.
    """
    told = []
    for at, column in enumerate(columns):
        going = [_going_on(steps.get(column, {}), starts, other) for other in others]
        chosen, number = pick([many_from(held, at + 1) for held in going], number)
        starts = going[chosen]
        told.append(others[chosen])
    return told


def _going_on(following, starts, other):
    return [(ways, (state[1], other)) for ways, state in starts if other in following.get(state, [])]
