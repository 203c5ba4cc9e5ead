"""What the tests share: things of all kinds, rules and fields by chance, and a slow model to test against.

The model is written from the document alone: it takes nothing from the program.
"""

import random
import unittest

from cellscript import errors
from cellscript.fields import box, endless, torus
from cellscript.rules import Rule

SIGNS = ".abcdefghijklmnopqrstuvwxyz"
FAR = 10 ** 6
LATE = 10 ** 9
BESIDE = {
    "n": (0, -1), "ne": (1, -1), "e": (1, 0), "se": (1, 1),
    "s": (0, 1), "sw": (-1, 1), "w": (-1, 0), "nw": (-1, -1),
}
WAYS = range(8)
SORTS = ("around", "halves", "blocks")


class Hostile:
    """A thing that can't be asked anything."""

    __hash__ = None

    def _refuse(self, *_):
        raise RuntimeError("this was asked")

    __eq__ = __len__ = __iter__ = __bool__ = __lt__ = __getitem__ = __contains__ = __repr__ = _refuse


class Like:
    """A thing that is equal to all."""

    __hash__ = None

    def __eq__(self, other):
        return True


def nested(depth, make=lambda thing: [thing]):
    """A thing of so many things within one another."""
    thing = make("a")
    for _ in range(depth - 1):
        thing = make(thing)
    return thing


def whatever():
    """Things of all kinds, new ones each time."""
    return [
        None, True, False, 0, 1, -1, 2, 7, 8, 33, 100, 101, FAR, -FAR, LATE, 10 ** 30, -(10 ** 5000),
        "", ".", "a", "A", "_", "ab", "ba", "a/b", " ", "\n", "\u00e9", "\ud800", "n", "around", "a" * 10000,
        b"", b"a", (), ("a",), (0, 0, "a"), (0, 0, "."), ("a", (), "b"), [], ["a"], ["_"], [""], [["a"]], [None],
        [0] * 10000, ["a"] * 10000, {}, {"a": ["a"]}, {0: "a"}, {"a"}, frozenset(), range(3), iter([]),
        nested(50), nested(50, lambda thing: (thing,)), nested(50, lambda thing: {"a": thing}),
        int, len, Exception, Exception("a"), NotImplemented, Ellipsis, object(), Hostile(), Like(),
        Rule("around", 2, (), []), endless([]), torus(["a"]), box(["a"], "b"),
    ]


def shown(thing):
    """A thing as a test tells it: not all can be written out."""
    try:
        return repr(thing)[:200]
    except (ValueError, RuntimeError):
        return thing.__class__.__name__


def is_number(thing, low, high):
    return type(thing) is int and low <= thing <= high


def no_numbers(low, high):
    """Things that are no whole numbers from low to high."""
    return [thing for thing in whatever() if not is_number(thing, low, high)] + [low - 1, high + 1, str(low), [low]]


def no_spots():
    return no_numbers(-FAR, FAR)


def no_turns():
    return no_numbers(0, LATE)


def no_ways():
    return no_numbers(0, 7)


def no_texts_of(signs, long):
    """Things that are no texts, so long, of these signs."""
    things = [
        thing for thing in whatever()
        if type(thing) is not str or len(thing) != long or any(sign not in signs for sign in thing)
    ]
    things += [signs[0] * (long + 1), list(signs[0] * long), signs[0] * long + "\n", signs[0] * long + "~"]
    if long > 0:
        things += [signs[0] * (long - 1), "A" * long, "_" * long, signs[0] * (long - 1) + "~"]
    return things


def no_signs():
    return no_texts_of(SIGNS, 1)


def no_pictures():
    """Things that are no pictures."""
    return no_pieces() + [["_"], ["a_", "ab"], ["ab", "_a"]]


def no_pieces():
    """Things that are no pieces."""
    things = [thing for thing in whatever() if thing.__class__ is not list or thing not in (["a"], ["_"])]
    return things + [
        ["a"] * 33, ["a" * 33], ["a" * 33] * 33, ["", ""], ["ab", "a"], ["a", "ab"], ["ab", "ab", "abc"], ["a", "A"],
        ["A"], ["a", None], ["a", ["a"]], ["a", b"a"], [("a",)], ("a",), "a", ["ab", "a "], ["a~"], ["a/a"], ["a\n"],
        ["-"], [1], [{"a": 1}], {"a": "a"}, [["a", "b"], ["a", "b"]], ["a", 1], ["a", ("a",)],
    ]


def no_cells():
    """Things that are no lists of cells."""
    things = [thing for thing in whatever() if thing.__class__ is not list or thing != []]
    return things + [
        [(0, 0, ".")], [(0, 0, "a"), (0, 0, "a")], [(0, 0, "a"), (1, 0, "b"), (0, 0, "b")], [(0, 0)], [()], [(0, 0, "a", 0)],
        [[0, 0, "a"]], [(True, 0, "a")], [(0, False, "a")], [(FAR + 1, 0, "a")], [(-FAR - 1, 0, "a")], [(0, FAR + 1, "a")],
        [(0, -FAR - 1, "a")], [(0, 0, "A")], [(0, 0, "")], [(0, 0, "ab")], [(0, 0, None)], [("0", 0, "a")], [(0, None, "a")],
        [(0, 0, "_")], [(0, 0, "a"), None], ((0, 0, "a"),), {(0, 0): "a"}, [(0, 0, ["a"])], [(0, 0, Hostile())],
        [(0, 0, "a"), (0, 1, ".")], [(Hostile(), 0, "a")], ["000"], [{0: 0, 1: 0, 2: "a"}],
    ]


def no_rules():
    return [thing for thing in whatever() if type(thing) is not Rule]


def no_fields():
    known = type(endless([]))
    return [thing for thing in whatever() if type(thing) is not known]


class Told(unittest.TestCase):
    """A test that asks for refusals."""

    def refused(self, error, kept, call, *things, **named):
        """A call is refused with just this error, which keeps just this, by its fields."""
        with self.assertRaises(errors.CellError) as caught:
            call(*things, **named)
        self.assertIs(type(caught.exception), error)
        self.assertEqual(vars(caught.exception), kept)

    def refused_text(self, read, text):
        """A text is refused by what reads it."""
        try:
            told = read(text)
        except errors.NoText as caught:
            self.assertEqual(vars(caught), {})
            return
        self.fail(f"this was read: {shown(text)} as {shown(told)}")

    def refused_wrong(self, call, right, wrong, named=()):
        """What is wrong is refused by its place, whatever the things behind it are.

        right are things that are taken, wrong, for each place, things that aren't,
        named the names of the last ones of these.
        """
        self.assertEqual(len(right), len(wrong))
        plain = len(right) - len(named)
        for at in range(len(right)):
            for thing in wrong[at]:
                for behind in (right[at + 1:], [things[0] for things in wrong[at + 1:]]):
                    things = [*right[:at], thing, *behind]
                    by_name = dict(zip(named, things[plain:]))
                    self.refused(errors.Wrong, {"at": at}, call, *things[:plain], **by_name)


# Chance


def chance(seed):
    return random.Random(seed)


def some_row_of_signs(by, many):
    signs = [sign for sign in SIGNS[:many] if by.random() < 0.5]
    return "".join(signs) or by.choice(SIGNS[:many])


def some_near(by, sort):
    places = {"around": list(BESIDE), "halves": ["n", "e", "s", "w"], "blocks": []}[sort]
    return tuple(by.sample(places, by.randint(0, len(places))))


def some_test(by, many, near):
    if near and by.random() < 0.6:
        return "at", by.choice(near), some_row_of_signs(by, many)
    low = by.randint(0, 4)
    return "count", low, by.randint(low, 8), some_row_of_signs(by, many)


def some_rows(by, sort, many, near, most=6):
    rows = []
    for _ in range(by.randint(1, most)):
        if sort == "blocks":
            fours = tuple(some_row_of_signs(by, many) for _ in range(4))
            rows.append((fours, "".join(by.choice(SIGNS[:many]) for _ in range(4))))
        else:
            tests = tuple(some_test(by, many, near) for _ in range(by.randint(0, 3)))
            rows.append((some_row_of_signs(by, many), tests, by.choice(SIGNS[:many])))
    return rows


def some_parts(by, sort, many=None, keeps=False):
    """sort, many, near and rows of a rule; keeps tells that it keeps the ground."""
    many = many or by.choice((2, 3, 4, 5, 27))
    near = some_near(by, sort)
    rows = some_rows(by, sort, many, near)
    if keeps and sort == "blocks":
        rows.insert(0, ((".",) * 4, "...."))
    elif keeps:
        rows.insert(0, (".", (("count", len(near), 8, "."),), "."))
    return sort, many, near, rows


def some_picture(by, many, wide, high):
    return ["".join(by.choice(SIGNS[:many]) for _ in range(wide)) for _ in range(high)]


def misspelled(by, text, signs, many):
    """A text with a sign out, twice, otherwise or more, or two that have changed places."""
    told = []
    for _ in range(many):
        at = by.randrange(len(text))
        deed = by.randrange(5)
        if deed == 0:
            told.append(text[:at] + text[at + 1:])
        elif deed == 1:
            told.append(text[:at] + text[at] + text[at:])
        elif deed == 2:
            told.append(text[:at] + by.choice(signs) + text[at + 1:])
        elif deed == 3:
            told.append(text[:at] + by.choice(signs) + text[at:])
        else:
            told.append(text[:at] + text[at:at + 2][::-1] + text[at + 2:])
    return told


def cells_of(picture, left=0, top=0):
    """The cells of a picture with its left top at (left, top)."""
    return sorted(
        (left + x, top + y, sign) for y, row in enumerate(picture) for x, sign in enumerate(row) if sign != "."
    )


def some_endless(by, many, turn):
    wide, high = by.randint(1, 6), by.randint(1, 6)
    picture = some_picture(by, many, wide, high)
    return endless(cells_of(picture, by.randint(-5, 5), by.randint(-5, 5)), turn=turn)


def some_torus(by, many, turn, even):
    sizes = (2, 4, 6) if even else (1, 2, 3, 4, 5)
    return torus(some_picture(by, many, by.choice(sizes), by.choice(sizes)), turn=turn)


def some_box(by, many, turn):
    return box(some_picture(by, many, by.randint(1, 5), by.randint(1, 5)), some_picture(by, many, 1, 1)[0], turn=turn)


def some_field(by, kind, sort, many, turn):
    if kind == "endless":
        return some_endless(by, many, turn)
    if kind == "torus":
        return some_torus(by, many, turn, sort != "around")
    return some_box(by, many, turn)


def swapping_rows(by, sort, many, near, most=6):
    """Rows of a rule that can be undone: each text around, or each block, changes places with another one."""
    rows = []
    signs = SIGNS[:many]
    for _ in range(by.randint(1, most)):
        if sort == "blocks":
            # Two fours that aren't told otherwise by an earlier row.
            one, other = ("".join(by.choice(signs) for _ in range(4)) for _ in range(2))
            known = [told for _, told in rows]
            if one == other or one in known or other in known or "...." in (one, other):
                continue
            rows += [(tuple(one), other), (tuple(other), one)]
        else:
            # By an unlike text around for each pair no two rows meet.
            tests = tuple(("at", place, by.choice(signs[1:])) for place in near)
            if not near or tests in [row[1] for row in rows]:
                continue
            one, other = by.sample(list(signs), 2)
            rows += [(one, tests, other), (other, tests, one)]
    return rows


# The model


def model_turned(piece, way):
    """A piece turned by a way, cell by cell."""
    if way >= 4:
        piece = ["".join(reversed(row)) for row in piece]
    for _ in range(way % 4):
        high = len(piece)
        piece = ["".join(piece[high - 1 - k][j] for k in range(high)) for j in range(len(piece[0]))]
    return piece


def model_spot(x, y, way, corner=0):
    """Where a way brings a spot: about a cell, or, corner being 1, about a corner."""
    if way >= 4:
        x = -corner - x
    for _ in range(way % 4):
        x, y = -corner - y, x
    return x, y


def model_becomes(parts, own, around):
    """What a cell becomes by a rule of these parts."""
    _, _, near, rows = parts
    for held, tests, sign in rows:
        fits = own in held
        for test in tests:
            if test[0] == "at":
                fits = fits and around[near.index(test[1])] in test[2]
            else:
                count = 0
                for other in around:
                    count += other in test[3]
                fits = fits and test[1] <= count <= test[2]
        if fits:
            return sign
    return own


def model_block(parts, four):
    """What a block becomes by a rule of these parts."""
    for fours, told in parts[3]:
        if four[0] in fours[0] and four[1] in fours[1] and four[2] in fours[2] and four[3] in fours[3]:
            return told
    return four


class World:
    """A field of the model: kind, turn, edge, width and height, and a dict of its signs by their spots."""

    def __init__(self, kind, turn, signs, edge=None, wide=None, high=None):
        self.kind, self.turn, self.edge, self.wide, self.high = kind, turn, edge, wide, high
        self.signs = {spot: sign for spot, sign in signs.items() if sign != "."}

    def at(self, x, y):
        if self.kind == "torus":
            return self.signs.get((x % self.wide, y % self.high), ".")
        if self.kind == "box" and not (0 <= x < self.wide and 0 <= y < self.high):
            return self.edge
        return self.signs.get((x, y), ".")

    def spots(self):
        """All spots that may be otherwise behind a turn."""
        if self.kind != "endless":
            return [(x, y) for x in range(self.wide) for y in range(self.high)]
        return {(x + dx, y + dy) for x, y in self.signs for dx in (-1, 0, 1) for dy in (-1, 0, 1)}

    def next(self, parts):
        """The world behind a turn by a rule of these parts."""
        signs = {(x, y): self.next_sign(parts, x, y) for x, y in self.spots()}
        return World(self.kind, self.turn + 1, signs, self.edge, self.wide, self.high)

    def next_sign(self, parts, x, y):
        if parts[0] == "blocks":
            return self.next_of_block(parts, x, y)
        if parts[0] == "halves" and (x + y + self.turn) % 2 == 1:
            return self.at(x, y)
        around = "".join(self.at(x + BESIDE[place][0], y + BESIDE[place][1]) for place in parts[2])
        return model_becomes(parts, self.at(x, y), around)

    def next_of_block(self, parts, x, y):
        left, top = x - (x + self.turn) % 2, y - (y + self.turn) % 2
        spots = [(left, top), (left + 1, top), (left, top + 1), (left + 1, top + 1)]
        if self.kind == "box" and not all(0 <= a < self.wide and 0 <= b < self.high for a, b in spots):
            return self.at(x, y)
        four = "".join(self.at(a, b) for a, b in spots)
        return model_block(parts, four)[spots.index((x, y))]

    def cells(self):
        return sorted((x, y, sign) for (x, y), sign in self.signs.items())


def world_of(field):
    """The model's world of a field of the program."""
    signs = {(x, y): sign for x, y, sign in field.cells()}
    return World(field.kind(), field.turn(), signs, field.edge(), field.wide(), field.high())


def told_of(field):
    """All that a field tells of itself."""
    return (
        field.kind(), field.turn(), field.edge(), field.wide(), field.high(), field.frame(), field.cells(),
        len(field), repr(field),
    )
