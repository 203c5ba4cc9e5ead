"""Runs by hearts that are kept, two turns at a time."""

from cellscript.kinds import GROUND
from cellscript.pieces import AROUND_HEART, LONG, heart_learned, outside_of
from cellscript.plain import fits, step

TWO_TURNS = 2
# Squares lie so far apart as their hearts are long: so these leave no gap.
APART = 4


class Kept:
    """Runs fields by one rule, and keeps the hearts that it reckoned, up to the most."""

    def __init__(self, rule, *, most=64):
        self._rule = rule
        self._most = most
        self._hearts = {}
        self._reckoned = 0

    def run(self, field, turns):
        """The field behind so many turns."""
        fits(self._rule, field, turns)
        learned = {}
        for _ in range(turns // TWO_TURNS):
            field = self._two_turns_on(field, learned)
        return step(self._rule, field) if turns % TWO_TURNS == 1 else field

    def keeps(self):
        """How many hearts are kept."""
        return len(self._hearts)

    def reckoned(self):
        """How many hearts were reckoned so far."""
        return self._reckoned

    def _two_turns_on(self, field, learned):
        if field.area()[2] == []:
            return field.remade(field.turn() + TWO_TURNS, 0, 0, [])
        left, top, rows = _in_squares(field)
        odd = field.turn() % 2 == 1
        told = []
        for down in range(0, len(rows) - APART, APART):
            band = rows[down:down + LONG]
            hearts = [
                self._heart(tuple([row[right:right + LONG] for row in band]), odd, learned)
                for right in range(0, len(rows[0]) - APART, APART)
            ]
            told.extend(["".join(parts) for parts in zip(*hearts)])
        return _of_hearts(field, left + AROUND_HEART, top + AROUND_HEART, told)

    def _heart(self, square, odd, learned):
        key = (square, odd)
        if key not in self._hearts:
            heart = heart_learned(self._rule, square, odd, learned)
            if len(self._hearts) == self._most:
                eldest = list(self._hearts)[0]
                del self._hearts[eldest]
            self._hearts[key] = heart
            self._reckoned += 1
        return self._hearts[key]


def _squares_from(least):
    """Where the first square begins, for hearts from the least number on."""
    return (least - AROUND_HEART) // APART * APART


def _squares_to(greatest):
    """Where the last square ends, for hearts up to the greatest number."""
    return (greatest - AROUND_HEART) // APART * APART + LONG


def _in_squares(field):
    """(left, top, rows): the cells of all squares whose hearts make the field of two turns later."""
    left, top, rows = field.area()
    wide, high = len(rows[0]), len(rows)
    if field.kind() == "torus":
        # The hearts of squares from 0 on begin behind 0, and go round as far as the torus is long.
        across, down = _squares_to(AROUND_HEART + wide - 1), _squares_to(AROUND_HEART + high - 1)
        tall = rows * (down // high + 1)
        return 0, 0, [(row * (across // wide + 1))[:across] for row in tall[:down]]
    if field.kind() == "endless":
        return _set_in(left, top, rows, TWO_TURNS, GROUND)
    return _set_in(left, top, rows, 0, outside_of(field.edge()))


def _set_in(left, top, rows, grows, sign):
    """(left, top, rows) of rows, among cells of a sign, in the squares of what so far grows."""
    x, y = _squares_from(left - grows), _squares_from(top - grows)
    wide = _squares_to(left + len(rows[0]) - 1 + grows) - x
    high = _squares_to(top + len(rows) - 1 + grows) - y
    told = [sign * wide for _ in range(high)]
    for at, row in enumerate(rows):
        told[top - y + at] = (sign * (left - x) + row).ljust(wide, sign)
    return x, y, told


def _of_hearts(field, left, top, rows):
    """The field of two turns later, of rows of hearts at (left, top)."""
    turn = field.turn() + TWO_TURNS
    if field.kind() == "endless":
        return field.remade(turn, left, top, rows)
    if field.kind() == "torus":
        held = [row[:field.wide()] for row in rows[:field.high()]]
        return field.remade(turn, 0, 0, held).moved(left, top)
    held = [row[-left:field.wide() - left] for row in rows[-top:field.high() - top]]
    return field.remade(turn, 0, 0, held)
