"""Kinds of things, told of whatever is handed in, and the refusal of what isn't as told."""

from cellscript.errors import Wrong

SIGNS = ".abcdefghijklmnopqrstuvwxyz"
GROUND = "."
LETTERS = "abcdefghijklmnopqrstuvwxyz"
PLACES = ("n", "ne", "e", "se", "s", "sw", "w", "nw")
FARTHEST = 1000000
LAST_TURN = 1000000000


def is_whole(thing):
    """Whether a thing is a whole number: an int that is no truth."""
    return isinstance(thing, int) and not isinstance(thing, bool)


def is_from_to(thing, low, high):
    """Whether a thing is a whole number from low to high."""
    return is_whole(thing) and low <= thing <= high


def is_made_of(thing, signs):
    """Whether a thing is a text of signs of a text, of however many, in any order."""
    return isinstance(thing, str) and all([sign in signs for sign in thing])


def is_text_of(thing, signs, long):
    """Whether a thing is a text, so long, of signs of a text, in any order."""
    return is_made_of(thing, signs) and len(thing) == long


def is_sign(thing):
    """Whether a thing is one of the 27 signs."""
    return is_text_of(thing, SIGNS, 1)


def is_signs(thing):
    """Whether a thing is a row of signs: one or more that rise, none twice."""
    return is_made_of(thing, SIGNS) and thing != "" and list(thing) == sorted(set(thing))


def is_spot(thing):
    """Whether a thing is a number that x or y may be."""
    return is_from_to(thing, -FARTHEST, FARTHEST)


def is_turn(thing):
    """Whether a thing is a number that a turn may be."""
    return is_from_to(thing, 0, LAST_TURN)


def is_word(thing):
    """Whether a thing is a text of one to eight small letters."""
    return is_made_of(thing, LETTERS) and 1 <= len(thing) <= 8


def is_place(thing):
    """Whether a thing is the name of what lies beside a cell."""
    return isinstance(thing, str) and thing in PLACES


def is_way(thing):
    """Whether a thing is one of the eight ways."""
    return is_from_to(thing, 0, 7)


def is_alike(thing, known):
    """Whether a thing is what is known: texts, whole numbers, and tuples and lists of these."""
    if isinstance(known, str):
        return isinstance(thing, str) and thing == known
    if is_whole(known):
        return is_whole(thing) and thing == known
    if isinstance(known, tuple):
        return isinstance(thing, tuple) and _all_alike(thing, known)
    return isinstance(known, list) and isinstance(thing, list) and _all_alike(thing, known)


def _all_alike(things, known):
    return len(things) == len(known) and all([is_alike(one, other) for one, other in zip(things, known)])


def texts_of(signs, long):
    """All texts of signs, so long, in their order."""
    told = [""]
    for _ in range(long):
        told = [text + sign for text in told for sign in signs]
    return told


def refuse_wrong(*right):
    """Refuses what was handed in with the place of the first thing that isn't right."""
    for at, is_right in enumerate(right):
        if not is_right:
            raise Wrong(at)
