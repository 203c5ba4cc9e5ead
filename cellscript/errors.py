"""The refusals: each stands straight under CellError and keeps what it is made with."""


class CellError(ValueError):
    """What all refusals have in common."""


class Wrong(CellError):
    """What was handed in at a place isn't as told."""

    def __init__(self, at):
        self.at = at


class BadRow(CellError):
    """The row at a place is none."""

    def __init__(self, at):
        self.at = at


class NoLog(CellError):
    """The row at a place is no deed's text, or its deed is refused."""

    def __init__(self, at):
        self.at = at


class Broken(CellError):
    """The deed at a place of a log can't be done any more."""

    def __init__(self, at):
        self.at = at


class TooFar(CellError):
    """A frame is wider or higher than the most."""

    def __init__(self, most):
        self.most = most


class TooMany(CellError):
    """There are more than the most."""

    def __init__(self, most):
        self.most = most


class Strange(CellError):
    """A rule hasn't this sign."""

    def __init__(self, sign):
        self.sign = sign


class Unknown(CellError):
    """There is none of this name."""

    def __init__(self, name):
        self.name = name


class Taken(CellError):
    """There is one of this name."""

    def __init__(self, name):
        self.name = name


class Used(CellError):
    """The field of this name has the rule."""

    def __init__(self, name):
        self.name = name


class Alien(CellError):
    """The field of this name has another rule."""

    def __init__(self, name):
        self.name = name


class NoCell(CellError):
    """This spot lies outside of a box."""

    def __init__(self, x, y):
        self.x = x
        self.y = y


class Filled(CellError):
    """This place can't be laid upon."""

    def __init__(self, x, y):
        self.x = x
        self.y = y


class Early(CellError):
    """A field of this turn isn't as old as that."""

    def __init__(self, now):
        self.now = now


class NoTurn(CellError):
    """A history has no such turn."""

    def __init__(self, now):
        self.now = now


class Merging(CellError):
    """A rule can't be undone, by this paper."""

    def __init__(self, paper):
        self.paper = paper


class NoForebear(CellError):
    """There is no forebear of this number, but only so many in total."""

    def __init__(self, number, total):
        self.number = number
        self.total = total


class NoText(CellError):
    """This isn't the text of what was to be read."""


class Unfit(CellError):
    """A rule of this sort isn't asked so."""


class Fixed(CellError):
    """A box isn't moved."""


class Restless(CellError):
    """A rule doesn't keep the ground."""


class Odd(CellError):
    """A torus has an odd width or height."""


class NoWay(CellError):
    """A rule of this sort isn't undone."""


class NotAround(CellError):
    """A rule isn't of the sort around."""


class NoDeed(CellError):
    """This is no deed."""


class Nothing(CellError):
    """There is nothing to take back or to do again."""


class NoLine(CellError):
    """This is no row that a desk takes."""
