"""Gardens: pictures on a strip without forebears, and sets of states that show that there are none."""

from cellscript.errors import TooMany
from cellscript.strips import are_states, columns_of, refuse_strip, rows_of, states_of, states_that_come, strip_steps

MOST_SETS = 120


def garden(rule, edge, high):
    """("garden", rows) of a shortest garden so high, the first of these, or ("none", sets) where there is none."""
    refuse_strip(rule, [edge], high)
    steps, columns = strip_steps(rule, edge, high), columns_of(rule, high)
    sets, ways = [states_of(rule, high)], [[]]
    known = {tuple(sets[0]): True}
    at = 0
    # The sets come in the order of the least columns that lead to them: so the first way to none is the first garden.
    while at < len(sets):
        for column in columns:
            come = states_that_come(steps, sets[at], column)
            if come == []:
                return "garden", rows_of([*ways[at], column])
            if tuple(come) not in known:
                if len(sets) == MOST_SETS:
                    raise TooMany(MOST_SETS)
                known[tuple(come)] = True
                sets.append(come)
                ways.append([*ways[at], column])
        at += 1
    return "none", sets


def no_garden_holds(rule, edge, high, sets):
    """Whether sets, whatever they are, show that there is no garden so high."""
    refuse_strip(rule, [edge], high)
    if not isinstance(sets, list) or not all([are_states(states, rule.signs(), high) for states in sets]):
        return False
    all_states = states_of(rule, high)
    if [] in sets or sets[:1] != [all_states]:
        return False
    # As a number, with a bit for each of its states, a set is quickly looked for within another one.
    bits = {state: 1 << at for at, state in enumerate(all_states)}
    by_number = {_number_of(states, bits): states for states in sets}
    steps, columns = strip_steps(rule, edge, high), columns_of(rule, high)
    for states in by_number.values():
        for column in columns:
            come = states_that_come(steps, states, column)
            if not _holds_one(_number_of(come, bits), by_number):
                return False
    return True


def _number_of(states, bits):
    return sum([bits[state] for state in states])


def _holds_one(number, by_number):
    """Whether one of the sets, by their numbers, lies within the set of a number."""
    for part in by_number:
        if number & part == part:
            return True
    return False
