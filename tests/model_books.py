"""A slow model of books, that goes through its log anew for all that it is asked, and deeds by chance."""

from cellscript import errors
from cellscript.fields import box, endless, torus
from cellscript.laying import lay
from cellscript.machine import Machine, read_machine
from cellscript.plain import fits, run
from cellscript.ruletexts import read_rule
from cellscript.undo import undone
from cellscript.wires import wires
from tests.model_machines import some_fed, some_machine
from tests.support import SIGNS, World, some_picture

LIFE = read_rule("around 2 n ne e se s sw w nw\n. 3-3=a -> a\na 2-3=a -> a\na -> .")
# Turns of these lead back.
TURNING = read_rule("blocks 2\na . . . -> .a..\n. a . . -> ...a\n. . . a -> ..a.\n. . a . -> a...")
SWAPPING = read_rule("halves 3 n e\n. n=a -> b\nb n=a -> .")
# These of others don't.
FADING = read_rule("blocks 3\na . . . -> ....")
MERGING = read_rule("halves 2 n e s w\na n=a -> .")
WIDE_BLOCKS = read_rule("blocks 5\na . . . -> .a..\n. a . . -> a...")
GROWING = read_rule("around 3 w\n. -> a")
WIRES = wires()
RULES = (LIFE, TURNING, SWAPPING, FADING, MERGING, WIDE_BLOCKS, GROWING, WIRES)
NAMES = ("a", "b", "c", "ab", "zz", "life", "rule", "field", "f", "abcdefgh", "put", "none", "run")
MACHINES = (read_machine("in a/in b/and c a b/out c"), read_machine("in a/not b a/out b"), read_machine("one a/flip b a/out b"), read_machine("in a"))


class Refused(Exception):
    """What a deed is refused with by the model: an error, and what it keeps."""

    def __init__(self, error, **kept):
        super().__init__(error, kept)
        self.told = error, kept


def refused_as(call):
    """What a call tells, refused as the model refuses."""
    try:
        return call()
    except errors.CellError as caught:
        raise Refused(type(caught), **vars(caught)) from None


def model_done(state, deed):
    """The state behind a deed that is one: by names (rule,) and (name of the rule, field)."""
    word, name = deed[0], deed[1]
    rules = {one: told for one, told in state.items() if len(told) == 1}
    fields = {one: told for one, told in state.items() if len(told) == 2}
    if word == "field" and deed[2] not in rules:
        raise Refused(errors.Unknown, name=deed[2])
    if word == "copy" and deed[2] not in fields:
        raise Refused(errors.Unknown, name=deed[2])
    if word == "end" and name not in state:
        raise Refused(errors.Unknown, name=name)
    if word not in ("rule", "field", "copy", "end") and name not in fields:
        raise Refused(errors.Unknown, name=name)
    if word in ("rule", "field", "copy") and name in state:
        raise Refused(errors.Taken, name=name)
    if (word == "rule" and len(rules) >= 8) or (word in ("field", "copy") and len(fields) >= 8):
        raise Refused(errors.TooMany, most=8)
    if word == "end" and name in rules:
        users = sorted(one for one, (of, _) in fields.items() if of == name)
        if users:
            raise Refused(errors.Used, name=users[0])
    if word == "lay" and rules[fields[name][0]][0] != WIRES:
        raise Refused(errors.Alien, name=name)
    told = {**state}
    if word == "rule":
        told[name] = (deed[2],)
    elif word == "copy":
        told[name] = state[deed[2]]
    elif word == "end":
        del told[name]
    elif word == "field":
        told[name] = (deed[2], deed[3])
    else:
        of, field = state[name]
        told[name] = (of, refused_as(lambda: deed_done(rules[of][0], field, deed)))
    if word in ("field", "put", "place", "lay"):
        of, field = told[name]
        refused_as(lambda: fits(rules[of][0], field, 0))
    return told


def deed_done(rule, field, deed):
    """What a field becomes by a deed, as [32], [42], [44] and [86] tell it."""
    word = deed[0]
    if word == "put":
        return field.put(deed[2], deed[3], deed[4])
    if word == "place":
        return field.placed(deed[5], deed[2], deed[3], way=deed[4])
    if word == "run":
        return run(rule, field, deed[2])
    if word == "undo":
        return undone(rule, field, deed[2])
    return lay(field, deed[4], deed[2], deed[3], fed=deed[5])


class ModelBook:
    """What was done, and what was taken back."""

    def __init__(self):
        self.log, self.gone = [], []

    def state(self, many=None):
        """The state behind the first so many deeds."""
        state = {}
        for deed in self.log[:many]:
            state = model_done(state, deed)
        return state

    def do(self, deed):
        if len(self.log) >= 100:
            raise Refused(errors.TooMany, most=100)
        model_done(self.state(), deed)
        self.log, self.gone = [*self.log, clean(deed)], []

    def back(self):
        if not self.log:
            raise Refused(errors.Nothing)
        self.gone = [*self.gone, self.log[-1]]
        self.log = self.log[:-1]
        return self.gone[-1]

    def again(self):
        if not self.gone:
            raise Refused(errors.Nothing)
        self.log = [*self.log, self.gone[-1]]
        self.gone = self.gone[:-1]
        return self.log[-1]

    def instead(self, at, deed):
        if not 0 <= at < len(self.log):
            raise Refused(errors.Wrong, at=0)
        old, state = self.state(), self.state(at)
        log = [*self.log[:at], deed, *self.log[at + 1:]]
        for place in range(at, len(log)):
            try:
                state = model_done(state, log[place])
            except Refused:
                raise Refused(errors.Broken, at=place) from None
        self.log, self.gone = [clean(one) for one in log], []
        return sorted(name for name in {*old, *state} if old.get(name) != state.get(name))


def clean(deed):
    """A deed as it is told: what is fed without bits is left out."""
    if deed[0] != "lay":
        return deed
    return (*deed[:5], {name: bits for name, bits in deed[5].items() if bits})


# Chance


def some_book_field(by):
    """A field by chance, small, now and then one with a sign that many rules haven't."""
    many, turn = by.choice((2, 2, 2, 3, 4)), by.choice((0, 1, 2, 7, 10 ** 9))
    kind = by.choice(("endless", "endless", "torus", "box"))
    wide, high = by.choice((2, 4, 6, 3)), by.choice((2, 4, 6, 3))
    rows = some_picture(by, many, wide, high)
    if kind == "torus":
        return torus(rows, turn=turn)
    if kind == "box":
        return box(rows, by.choice(SIGNS[:many]), turn=turn)
    cells = World("endless", 0, {(x - 3, y + 5): sign for y, row in enumerate(rows) for x, sign in enumerate(row)}).cells()
    return endless(cells if by.random() < 0.6 else [], turn=turn)


def some_spot(by):
    return by.choice((0, 1, 2, 3, 5, -1, -4, 20, by.randint(-9, 9), 10 ** 6 if by.random() < 0.2 else 4))


def some_name(by, names, right=0.85):
    return by.choice(sorted(names)) if names and by.random() < right else by.choice(NAMES)


def some_deed(by, state):
    """A deed by chance that may well be done in a state."""
    rules = [name for name, told in state.items() if len(told) == 1]
    fields = [name for name, told in state.items() if len(told) == 2]
    new = [name for name in NAMES if name not in state]
    on_wires = [name for name in fields if state[state[name][0]][0] == WIRES]
    words = ["rule"] * (1 if rules else 9) + ["field"] * (2 if fields else 6) + ["put", "place", "place", "run", "run", "undo", "undo", "copy", "end"]
    word = by.choice(words + ["lay"] * (4 if on_wires else 1))
    if word == "rule":
        return word, some_name(by, new), by.choice((*RULES, WIRES, WIRES))
    if word == "field":
        return word, some_name(by, new), some_name(by, rules), some_book_field(by)
    if word == "copy":
        return word, some_name(by, new), some_name(by, fields)
    if word == "end":
        return word, some_name(by, state)
    name = some_name(by, fields)
    if word == "put":
        return word, name, some_spot(by), some_spot(by), by.choice(SIGNS[:3])
    if word == "place":
        rows = [row.replace("b", "_") for row in some_picture(by, 3, by.randint(1, 4), by.randint(1, 4))]
        return word, name, some_spot(by), some_spot(by), by.randint(0, 7), rows
    if word == "lay":
        rows = some_machine(by, 4)
        machine = by.choice((Machine(rows), *MACHINES))
        fed = some_fed(by, machine.rows(), 4)
        return word, some_name(by, on_wires or fields, 0.9), by.choice((0, 30, -40, by.randint(-60, 60))), some_spot(by), machine, fed
    return word, name, by.choice((0, 1, 1, 2, 5, by.randint(0, 9), 100 if by.random() < 0.1 else 3))


def asked_of(book):
    """All that a book tells of itself."""
    names = book.names()
    return (
        names, book.log(), len(book),
        [book.rule(name) for name, sort in names if sort == "rule"],
        [(book.field(name), book.rule_of(name)) for name, sort in names if sort == "field"],
    )


def all_again(book):
    """The deeds that can be done again; they are."""
    told = []
    while True:
        try:
            told.append(book.again())
        except errors.Nothing:
            return told
