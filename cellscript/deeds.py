"""Deeds: what is one, and what becomes of a book's rules and fields when one is done.

A state is a dict: by the name of a rule ("rule", rule), by that of a field ("field", its rule's name, field).
"""

from cellscript.errors import Alien, Taken, TooMany, Unknown, Used
from cellscript.kinds import is_word
from cellscript.laying import lay
from cellscript.parts import is_part
from cellscript.plain import fits, run
from cellscript.undo import undone
from cellscript.wires import wires

# The parts of each deed, behind its word.
DEEDS = {
    "rule": ("word", "rule"),
    "field": ("word", "word", "field"),
    "put": ("word", "spot", "spot", "sign"),
    "place": ("word", "spot", "spot", "way", "piece"),
    "run": ("word", "turns"),
    "undo": ("word", "turns"),
    "lay": ("word", "spot", "spot", "machine", "fed"),
    "copy": ("word", "word"),
    "end": ("word",),
}
MOST_OF_SORT = 8


def is_deed(thing):
    """Whether a thing, whatever it is, is a deed."""
    if not isinstance(thing, tuple) or len(thing) == 0 or not is_word(thing[0]) or thing[0] not in DEEDS:
        return False
    kinds = DEEDS[thing[0]]
    if len(thing) != 1 + len(kinds):
        return False
    if not all([is_part(part, kind) for part, kind in zip(thing[1:], kinds)]):
        return False
    return thing[0] != "lay" or all([name in thing[4].ins() for name in thing[5]])


def copied_deed(deed):
    """A deed with lists and dicts of its own; what is fed without bits is left out."""
    if deed[0] == "place":
        return (*deed[:5], list(deed[5]))
    if deed[0] == "lay":
        return (*deed[:5], {name: list(bits) for name, bits in deed[5].items() if bits != []})
    return deed


def state_behind(state, deed):
    """The state behind a deed, refused as that is."""
    told = dict(state)
    if deed[0] == "end":
        _refuse_end(state, deed[1])
        del told[deed[1]]
    else:
        told[deed[1]] = _made_by(state, deed)
    return told


def held_in(state, name, sort):
    """What a state holds by a name, whatever that is, of this sort."""
    if not is_word(name) or name not in state or state[name][0] != sort:
        raise Unknown(name)
    return state[name]


def _refuse_end(state, name):
    if name not in state:
        raise Unknown(name)
    for other in sorted(state):
        if state[other][0] == "field" and state[other][1] == name:
            raise Used(other)


def _refuse_new(state, name, sort):
    if name in state:
        raise Taken(name)
    if len([other for other in state if state[other][0] == sort]) == MOST_OF_SORT:
        raise TooMany(MOST_OF_SORT)


def _made_by(state, deed):
    """What the name of a deed that ends nothing has in the state behind it."""
    word, name, second = deed[0], deed[1], deed[2]
    if word == "rule":
        _refuse_new(state, name, "rule")
        return "rule", second
    if word == "field":
        _, rule = held_in(state, second, "rule")
        _refuse_new(state, name, "field")
        fits(rule, deed[3], 0)
        return "field", second, deed[3]
    if word == "copy":
        told = held_in(state, second, "field")
        _refuse_new(state, name, "field")
        return told
    _, of, field = held_in(state, name, "field")
    return "field", of, _field_behind(state[of][1], field, deed)


def _field_behind(rule, field, deed):
    """What a field of a rule becomes by a deed."""
    if deed[0] == "run":
        return run(rule, field, deed[2])
    if deed[0] == "undo":
        return undone(rule, field, deed[2])
    if deed[0] == "put":
        told = field.put(deed[2], deed[3], deed[4])
    elif deed[0] == "place":
        told = field.placed(deed[5], deed[2], deed[3], way=deed[4])
    else:
        if rule != wires():
            raise Alien(deed[1])
        told = lay(field, deed[4], deed[2], deed[3], fed=deed[5])
    fits(rule, told, 0)
    return told
