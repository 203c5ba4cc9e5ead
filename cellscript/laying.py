"""Machines laid as cells on fields, fed with sparks, and read off by the sparks that they send."""

from cellscript.errors import Filled
from cellscript.kinds import GROUND
from cellscript.meaning import waves_of
from cellscript.reading import home_of

SPARK = "a"
# What stands in a place, by the bits of the names that it hangs on: the first one counts one, the other one two.
WIRE = "bc"
LEADING = "de"
BARE = "x"
CROSS = "fghi"
MOUTH = "jk"
GATES = {"and": "lm", "or": "no", "xor": "pq", "not": "rs", "one": "rs", "hold": "tu", "flip": "vw"}


def laid_cells(machine):
    """The sorted cells of a machine, counted from its upper left one."""
    bits = waves_of(machine, {}, 0)
    told = []
    for (x, y), (signs, names) in _plan_of(machine).items():
        number = sum([bits[-(x + y)][name] << at for at, name in enumerate(names)])
        told.append((x, y, signs[number]))
    return sorted(told)


def _plan_of(machine):
    """By places the signs that may stand there, and the names that they hang on."""
    rows = {name: y for y, name in enumerate(machine.names())}
    gates = [row for row in machine.rows() if row[0] in GATES]
    columns = {row[1]: 2 * at + 1 for at, row in enumerate(gates)}
    last, plan = machine.wide() - 1, {}
    for name, y in rows.items():
        begin = columns[name] + 2 if name in columns else 0
        for x in range(begin, last):
            plan[(x, y)] = WIRE, (name,)
        if name in machine.outs():
            plan[(last, y)] = MOUTH, (name,)
    for row in gates:
        _plan_gate(plan, row, rows, columns[row[1]])
    return plan


def _plan_gate(plan, row, rows, column):
    """Plans the two columns of a gate: its own cells, and what leads down to them."""
    word, name, *reads = row
    plan[(column + 1, rows[name])] = GATES[word], (name,)
    plan[(column, rows[name])] = (BARE, ()) if word == "one" else (LEADING, (reads[0],))
    for at, down in enumerate(reads):
        for y in range(rows[down] + 1, rows[name]):
            plan[(column + at, y)] = CROSS, (*plan[(column + at, y)][1], down)


def sparks(machine, fed):
    """The sorted sparks that feed a machine, counted from its upper left cell."""
    return sorted([
        (-(at + 1 + y), y, SPARK)
        for y, name in enumerate(machine.names())
        if name in machine.ins()
        for at, bit in enumerate(fed.get(name, []))
        if bit == 1
    ])


def lay(field, machine, x, y, *, fed=None):
    """The field with a machine laid with its upper left cell at (x, y), and beside it what is fed to it."""
    _refuse_filled(field, machine, x, y)
    field = field.laid([(x + right, y + down, sign) for right, down, sign in laid_cells(machine)])
    for right, down, sign in sparks(machine, {} if fed is None else fed):
        _refuse_filled_place(field, x + right, y + down)
        field = field.laid([(x + right, y + down, sign)])
    return field


def _refuse_filled(field, machine, x, y):
    if field.kind() == "torus" and (field.wide() < machine.wide() or field.high() < machine.high()):
        raise Filled(x, y)
    for down in range(machine.high()):
        for right in range(machine.wide()):
            _refuse_filled_place(field, x + right, y + down)


def _refuse_filled_place(field, x, y):
    if home_of(field, x, y) is None or field.there(x, y) != GROUND:
        raise Filled(x, y)


def read_off(field, machine, x, y, turns):
    """For each name that is told out the bits that its sparks tell, a machine having been laid so many turns ago."""
    rows = {name: down for down, name in enumerate(machine.names())}
    return {name: _bits_beyond(field, machine.wide(), x, y, rows[name], turns) for name in machine.outs()}


def _bits_beyond(field, wide, x, y, down, turns):
    """The bits, from the wave 1 on, of the sparks beyond a mouth in a row."""
    # In each turn a spark is one cell further on: so the eldest wave lies farthest off.
    far = turns - down
    return [
        1 if field.there(x + far - wave, y + down) == SPARK else 0
        for wave in range(1, far - wide + 1)
    ]
