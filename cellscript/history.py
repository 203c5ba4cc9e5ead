"""Histories: the fields of all turns, in which cells can be changed."""

from cellscript.errors import NoTurn, TooMany
from cellscript.kinds import GROUND
from cellscript.plain import fits, next_field
from cellscript.reading import home_of, readers, sign_behind

MOST_TURNS = 100


class History:
    """A field for each turn, from that of its first one on."""

    def __init__(self, rule, field):
        fits(rule, field, 0)
        self._rule = rule
        self._fields = [field]
        # By turns: the places that have a change, and what the last change reached and changed.
        self._held = {}
        self._reached = {}
        self._changed = {}

    def go(self, turns):
        """Goes on by so many turns."""
        fits(self._rule, self._fields[-1], turns)
        if len(self._fields) - 1 + turns > MOST_TURNS:
            raise TooMany(MOST_TURNS)
        learned = {}
        for _ in range(turns):
            self._fields.append(next_field(self._rule, self._fields[-1], learned))

    def first(self):
        """The first turn."""
        return self._fields[0].turn()

    def last(self):
        """The last turn."""
        return self._fields[-1].turn()

    def field(self, turn):
        """The field of a turn."""
        self._refuse_no_turn(turn)
        return self._fields[turn - self.first()]

    def change(self, turn, x, y, sign):
        """Changes a cell at a turn; told is how many cells were reckoned anew."""
        field = self.field(turn)
        told = field.put(x, y, sign)
        if told == field:
            self._reached, self._changed = {}, {}
            return 0
        fits(self._rule, told, self.last() - turn)
        place = home_of(field, x, y)
        later = Later(self._rule, told, place)
        for now in range(turn + 1, self.last() + 1):
            later.go_on(self.field(now), self._held.get(now, {}), self.last())
        self._fields[turn - self.first():] = later.fields
        held = self._held.setdefault(turn, {})
        held[place] = True
        self._reached, self._changed = later.anew, later.otherwise
        return sum([len(places) for places in self._reached.values()])

    def reached(self, turn):
        """The places that were reckoned anew at a turn by what was changed last."""
        self._refuse_no_turn(turn)
        return list(self._reached.get(turn, []))

    def changed(self, turn):
        """The places whose sign at a turn is otherwise by what was changed last."""
        self._refuse_no_turn(turn)
        return list(self._changed.get(turn, []))

    def copied(self):
        """A history that is alike and goes on by itself."""
        other = History(self._rule, self._fields[0])
        other._fields = list(self._fields)
        other._held = {turn: {place: True for place in places} for turn, places in self._held.items()}
        other._reached = {turn: list(places) for turn, places in self._reached.items()}
        other._changed = {turn: list(places) for turn, places in self._changed.items()}
        return other

    def _refuse_no_turn(self, turn):
        if not self.first() <= turn <= self.last():
            raise NoTurn(turn)


class Later:
    """What becomes of a change, turn by turn: the fields as they are now, from its own turn on."""

    def __init__(self, rule, field, place):
        self.fields = [field]
        self.anew = {field.turn(): []}
        self.otherwise = {field.turn(): [place]}
        self._rule = rule
        self._learned = {}

    def go_on(self, old, held, last):
        """Goes on by a turn: old is its field as it was, held are the places that have a change at it."""
        ahead = self.fields[-1]
        found = readers(self._rule, ahead, self.otherwise[ahead.turn()], ahead.turn())
        anew = [place for place in found if place not in held]
        signs = [sign_behind(self._rule, ahead, place, ahead.turn(), self._learned) for place in anew]
        spots = [(x, y, sign) for (x, y), sign in zip(anew, signs) if old.there(x, y) != sign]
        field = _laid_anew(old, spots)
        if held != {}:
            fits(self._rule, field, last - field.turn())
        self.fields.append(field)
        self.anew[field.turn()] = anew
        self.otherwise[field.turn()] = [(x, y) for x, y, _ in spots]


def _laid_anew(field, spots):
    # Ground first: what goes must not make the frame too far for what comes.
    bare = [spot for spot in spots if spot[2] == GROUND]
    solid = [spot for spot in spots if spot[2] != GROUND]
    return field.laid(bare).laid(solid) if spots != [] else field
