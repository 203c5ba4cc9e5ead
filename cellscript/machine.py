"""Machines, told by rows of names, their texts, and the texts of what is fed to them."""

from cellscript.errors import BadRow, NoText
from cellscript.kinds import is_from_to, is_word

MOST_NAMES = 12
MOST_INS = 6
MOST_OUTS = 6
MOST_BITS = 60
# How many names each kind of row that makes one reads.
READS = {"in": 0, "one": 0, "not": 1, "flip": 1, "and": 2, "or": 2, "xor": 2, "hold": 2}
NOTHING = "-"


class Machine:
    """A machine: its rows, and the names that they make, take in and tell out."""

    def __init__(self, rows):
        if not isinstance(rows, list) or len(rows) == 0:
            raise BadRow(0)
        self._rows = []
        self._names = []
        self._ins = []
        self._outs = []
        for at, row in enumerate(rows):
            if not self._may_come(row):
                raise BadRow(at)
            self._come(row)

    def _may_come(self, row):
        """Whether a thing, whatever it is, is a row that may stand behind those ahead."""
        if not isinstance(row, tuple) or len(row) < 2 or not all([is_word(part) for part in row]):
            return False
        word, name = row[0], row[1]
        if word == "out":
            known = name in self._names and name not in self._outs
            return known and len(row) == 2 and len(self._outs) < MOST_OUTS
        if word not in READS or len(row) != 2 + READS[word] or name in self._names:
            return False
        if len(self._names) == MOST_NAMES or (word == "in" and len(self._ins) == MOST_INS):
            return False
        return all([part in self._names for part in row[2:]])

    def _come(self, row):
        self._rows.append(row)
        if row[0] == "out":
            self._outs.append(row[1])
        else:
            self._names.append(row[1])
        if row[0] == "in":
            self._ins.append(row[1])

    def rows(self):
        """The rows."""
        return list(self._rows)

    def names(self):
        """The names, in the order made."""
        return list(self._names)

    def ins(self):
        """The names of what is taken in."""
        return list(self._ins)

    def outs(self):
        """The names of what is told out."""
        return list(self._outs)

    def wide(self):
        """The width of its box."""
        return 2 * (len(self._names) - len(self._ins)) + 2

    def high(self):
        """The height of its box."""
        return len(self._names)

    def __eq__(self, other):
        return isinstance(other, Machine) and self._rows == other._rows


def show_machine(machine):
    """The text of a machine."""
    return "/".join([" ".join(row) for row in machine.rows()])


def read_machine(text):
    """The machine that a text tells."""
    if not isinstance(text, str):
        raise NoText()
    try:
        return Machine([tuple(row.split(" ")) for row in text.split("/")])
    except BadRow:
        raise NoText()


def is_fed(thing):
    """Whether a thing is a dict of lists of bits by words."""
    if not isinstance(thing, dict) or not all([is_word(name) for name in thing]):
        return False
    return all([_are_bits(bits) for bits in thing.values()])


def _are_bits(thing):
    if not isinstance(thing, list) or len(thing) > MOST_BITS:
        return False
    return all([is_from_to(bit, 0, 1) for bit in thing])


def show_bits(bits):
    """The text of bits."""
    return "".join([str(bit) for bit in bits])


def show_fed(fed):
    """The text of what is fed."""
    shown = [f"{name}={show_bits(fed[name])}" for name in sorted(fed) if fed[name] != []]
    return NOTHING if shown == [] else ",".join(shown)


def read_fed(text):
    """What is fed, as a text tells."""
    if not isinstance(text, str):
        raise NoText()
    if text == NOTHING:
        return {}
    fed = {}
    for part in text.split(","):
        name, _, bits = part.partition("=")
        fed[name] = ["01".find(bit) for bit in bits]
    # All else that this was read of is written otherwise.
    if not is_fed(fed) or show_fed(fed) != text:
        raise NoText()
    return fed
