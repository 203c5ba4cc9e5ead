"""Rules: what a cell, or a block of four cells, becomes."""

from cellscript.errors import BadRow, Unfit
from cellscript.kinds import (
    GROUND, PLACES, SIGNS, is_from_to, is_made_of, is_place, is_signs, is_text_of, is_way, refuse_wrong,
)
from cellscript.pictures import rows_turned

SORTS = ("around", "halves", "blocks")
SIDES = ("n", "e", "s", "w")
MOST_ROWS = 80
MOST_TESTS = 8
MOST_AROUND = 8


def _is_sort(thing):
    return isinstance(thing, str) and thing in SORTS


def _places_of(sort):
    if sort == "around":
        return PLACES
    return SIDES if sort == "halves" else ()


def _is_near(thing, sort):
    if not isinstance(thing, tuple) or not all([is_place(place) for place in thing]):
        return False
    if not all([place in _places_of(sort) for place in thing]):
        return False
    return len(set(thing)) == len(thing)


def _is_signs_of(thing, signs):
    return is_signs(thing) and is_made_of(thing, signs)


def _is_at(thing, near, signs):
    _, place, held = thing
    return is_place(place) and place in near and _is_signs_of(held, signs)


def _is_count(thing, signs):
    _, low, high, held = thing
    if not is_from_to(low, 0, MOST_AROUND) or not is_from_to(high, 0, MOST_AROUND):
        return False
    return low <= high and _is_signs_of(held, signs)


def _is_test(thing, near, signs):
    if not isinstance(thing, tuple) or len(thing) < 3 or not isinstance(thing[0], str):
        return False
    if thing[0] == "at" and len(thing) == 3:
        return _is_at(thing, near, signs)
    return thing[0] == "count" and len(thing) == 4 and _is_count(thing, signs)


def _is_cell_row(thing, near, signs):
    if not isinstance(thing, tuple) or len(thing) != 3:
        return False
    own, tests, sign = thing
    if not _is_signs_of(own, signs) or not is_text_of(sign, signs, 1):
        return False
    if not isinstance(tests, tuple) or len(tests) > MOST_TESTS:
        return False
    return all([_is_test(test, near, signs) for test in tests])


def _is_block_row(thing, signs):
    if not isinstance(thing, tuple) or len(thing) != 2:
        return False
    fours, four = thing
    if not isinstance(fours, tuple) or len(fours) != 4:
        return False
    return all([_is_signs_of(held, signs) for held in fours]) and is_text_of(four, signs, 4)


def _turned_place(place, way):
    # The places go round to the right: a quarter is two of them, mirrored they go the other way.
    at = PLACES.index(place)
    if way >= 4:
        at = -at
    return PLACES[(at + 2 * (way % 4)) % 8]


def _turned_test(test, way):
    if test[0] == "at":
        return "at", _turned_place(test[1], way), test[2]
    return test


def _turned_cell_row(row, way):
    own, tests, sign = row
    return own, tuple([_turned_test(test, way) for test in tests]), sign


def _turned_block_row(row, way):
    fours, four = row
    # Where each of the four comes from: its number, turned as a sign is.
    upper, lower = rows_turned(["ab", "cd"], way)
    froms = ["abcd".index(sign) for sign in upper + lower]
    return tuple([fours[at] for at in froms]), "".join([four[at] for at in froms])


class Rule:
    """A rule: its sort, how many signs it has, its near places and its rows."""

    def __init__(self, sort, many, near, rows):
        refuse_wrong(
            _is_sort(sort),
            is_from_to(many, 2, len(SIGNS)),
            _is_sort(sort) and _is_near(near, sort),
            isinstance(rows, list) and len(rows) <= MOST_ROWS,
        )
        self._sort = sort
        self._many = many
        self._near = tuple(near)
        self._rows = list(rows)
        for at, row in enumerate(self._rows):
            if not self._is_row(row):
                raise BadRow(at)

    def _is_row(self, row):
        if self._sort == "blocks":
            return _is_block_row(row, self.signs())
        return _is_cell_row(row, self._near, self.signs())

    def kind(self):
        """The sort."""
        return self._sort

    def many(self):
        """How many signs it has."""
        return self._many

    def near(self):
        """The near places."""
        return self._near

    def rows(self):
        """The rows."""
        return list(self._rows)

    def signs(self):
        """The signs."""
        return SIGNS[:self._many]

    def becomes(self, own, around):
        """The sign that a cell becomes, by its own one and those at the near places."""
        signs = self.signs()
        refuse_wrong(
            is_text_of(own, signs, 1),
            is_text_of(around, signs, len(self._near)),
        )
        if self._sort == "blocks":
            raise Unfit()
        for held, tests, sign in self._rows:
            if own in held and self._all_hold(tests, around):
                return sign
        return own

    def _all_hold(self, tests, around):
        for test in tests:
            if not self._holds(test, around):
                return False
        return True

    def _holds(self, test, around):
        if test[0] == "at":
            return around[self._near.index(test[1])] in test[2]
        _, low, high, held = test
        return low <= len([sign for sign in around if sign in held]) <= high

    def block(self, four):
        """The four signs that a block of four becomes."""
        refuse_wrong(is_text_of(four, self.signs(), 4))
        if self._sort != "blocks":
            raise Unfit()
        for fours, told in self._rows:
            if all([sign in held for sign, held in zip(four, fours)]):
                return told
        return four

    def keeps_ground(self):
        """Whether ground among ground stays ground."""
        if self._sort == "blocks":
            return self.block(GROUND * 4) == GROUND * 4
        return self.becomes(GROUND, GROUND * len(self._near)) == GROUND

    def turned(self, way):
        """The rule that is the same in a world that is turned so."""
        refuse_wrong(is_way(way))
        near = tuple([_turned_place(place, way) for place in self._near])
        if self._sort == "blocks":
            rows = [_turned_block_row(row, way) for row in self._rows]
        else:
            rows = [_turned_cell_row(row, way) for row in self._rows]
        return Rule(self._sort, self._many, near, rows)

    def __eq__(self, other):
        return (
            isinstance(other, Rule)
            and self._sort == other._sort
            and self._many == other._many
            and self._near == other._near
            and self._rows == other._rows
        )

    def __len__(self):
        return len(self._rows)

    def __repr__(self):
        return f"Rule({self._sort}, {self._many}, {len(self._rows)})"
