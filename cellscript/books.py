"""Books: rules and fields by names, and what was done with them, which is taken back or done otherwise."""

from cellscript.deeds import copied_deed, held_in, is_deed, state_behind
from cellscript.errors import Broken, CellError, NoDeed, Nothing, TooMany, Wrong
from cellscript.kinds import is_from_to

MOST_DEEDS = 100


class Book:
    """A book: its log, and the states ahead of each deed and behind the last one."""

    def __init__(self):
        self._deeds = []
        self._states = [{}]
        # Tuples (deed, state behind it), the one that was taken back last at the end.
        self._taken_back = []

    def do(self, deed):
        """Does a deed."""
        if not is_deed(deed):
            raise NoDeed()
        if len(self._deeds) == MOST_DEEDS:
            raise TooMany(MOST_DEEDS)
        self._states.append(state_behind(self._states[-1], deed))
        self._deeds.append(copied_deed(deed))
        self._taken_back = []

    def back(self):
        """Takes back the deed that was done last, and tells it."""
        if len(self._deeds) == 0:
            raise Nothing()
        deed = self._deeds.pop()
        self._taken_back.append((deed, self._states.pop()))
        return copied_deed(deed)

    def again(self):
        """Does again the deed that was taken back last, and tells it."""
        if len(self._taken_back) == 0:
            raise Nothing()
        deed, state = self._taken_back.pop()
        self._deeds.append(deed)
        self._states.append(state)
        return copied_deed(deed)

    def instead(self, at, deed):
        """Puts a deed in the place of another one; told are the names that are otherwise now."""
        if not is_from_to(at, 0, len(self._deeds) - 1):
            raise Wrong(0)
        deeds, states = [*self._deeds[:at], deed, *self._deeds[at + 1:]], self._states[:at + 1]
        for place in range(at, len(deeds)):
            states.append(_state_or_broken(states[-1], deeds[place], place))
        deeds[at] = copied_deed(deed)
        told = _otherwise(self._states[-1], states[-1])
        self._deeds, self._states, self._taken_back = deeds, states, []
        return told

    def names(self):
        """The sorted list of (name, sort)."""
        state = self._states[-1]
        return [(name, state[name][0]) for name in sorted(state)]

    def log(self):
        """The deeds that were done and not taken back."""
        return [copied_deed(deed) for deed in self._deeds]

    def rule(self, name):
        """The rule of a name."""
        return held_in(self._states[-1], name, "rule")[1]

    def rule_of(self, name):
        """The rule of a field, by its name."""
        return self.rule(held_in(self._states[-1], name, "field")[1])

    def field(self, name, *, at=None):
        """The field of a name, as it stands, or as it stood behind the first so many deeds."""
        if at is None:
            return held_in(self._states[-1], name, "field")[2]
        if not is_from_to(at, 0, len(self._deeds)):
            raise Wrong(1)
        return held_in(self._states[at], name, "field")[2]

    def copied(self):
        """A book that is alike and goes on by itself."""
        other = Book()
        other._deeds = list(self._deeds)
        other._states = list(self._states)
        other._taken_back = list(self._taken_back)
        return other

    def __eq__(self, other):
        return isinstance(other, Book) and self._deeds == other._deeds

    def __len__(self):
        return len(self._deeds)


def _state_or_broken(state, deed, place):
    """The state behind a deed, whatever that is, refused by its place."""
    if not is_deed(deed):
        raise Broken(place)
    try:
        return state_behind(state, deed)
    except CellError:
        raise Broken(place)


def _otherwise(old, new):
    """The sorted list of the names that two states don't hold alike."""
    return sorted({name for name in [*old, *new] if old.get(name) != new.get(name)})
