"""[84] to [86], [8], and of [3] what is theirs: machines laid as cells, fed and read off."""

import unittest

from cellscript import laying as file
from cellscript.errors import Filled, TooFar
from cellscript.fields import box, endless, torus
from cellscript.history import History
from cellscript.kept import Kept
from cellscript.laying import laid_cells, lay, read_off, sparks
from cellscript.machine import Machine, read_machine
from cellscript.meaning import meaning
from cellscript.plain import fits, run, step
from cellscript.wires import wires
from tests.model_machines import (
    GATE_SIGNS, GIVES_RIGHT, by_waves, ins_of, made_by, model_bits, model_cells, model_meaning, model_plan, model_sign,
    model_size, some_fed, some_machine,
)
from tests.support import FAR, SIGNS, Told, chance

WIRED = SIGNS[:25]
# A box 6 wide and 3 high.
AND = "in a/in b/and c a b/not d c/out c/out d"
FLIPS = "in a/flip b a/out b"


def text_of(rows):
    return "/".join(" ".join(row) for row in rows)


def sparks_of(rows, fed):
    """The sparks of what is fed, one by one."""
    names = [row[1] for row in made_by(rows)]
    return sorted((-(wave + names.index(name)), names.index(name), "a") for name, bits in fed.items() for wave, bit in enumerate(bits, 1) if bit)


def noise(by, field, rows, x, y, many):
    """The field with other signs outside of the box of a machine that is to be laid at (x, y)."""
    wide, high = model_size(rows)
    for _ in range(many):
        a, b = x + by.randint(-6, wide + 6), y + by.randint(-5, high + 5)
        if field.kind() != "endless":
            a, b = a % field.wide(), b % field.high()
        inside = [(x + k, y + j) for k in range(wide) for j in range(high)]
        if field.kind() == "torus":
            inside = [(k % field.wide(), j % field.high()) for k, j in inside]
        if (a, b) not in inside:
            field = field.put(a, b, by.choice(WIRED))
    return field


class Cells(Told):
    def test_to_the_letter(self):
        self.assertEqual(laid_cells(read_machine("in a/in b/and c a b/out c")), [
            (0, 0, "b"), (0, 1, "b"), (1, 0, "b"), (1, 1, "f"), (1, 2, "d"), (2, 0, "b"), (2, 1, "b"), (2, 2, "l"), (3, 2, "j"),
        ])
        self.assertEqual(laid_cells(read_machine("one a/out a")), [(1, 0, "x"), (2, 0, "s"), (3, 0, "k")])
        self.assertEqual(laid_cells(read_machine("in a")), [(0, 0, "b")])
        self.assertEqual(laid_cells(read_machine("in a/out a/in b")), [(0, 0, "b"), (0, 1, "b"), (1, 0, "j")])
        # A clock, 6 wide and 2 high, first 1 in the wave -8: in the wave -(4 + 1) of its gate 0, in that of its mouth 1.
        self.assertEqual(laid_cells(read_machine("one a/flip b a/out b")), [
            (1, 0, "x"), (2, 0, "s"), (3, 0, "c"), (3, 1, "e"), (4, 0, "c"), (4, 1, "v"), (5, 1, "k"),
        ])

    def test_every_gate(self):
        # old above other, below it, and the same name twice; right above the gate, or with rows between.
        between = [[], [("one", "m")], [("not", "m", "a"), ("in", "n")], [("flip", "m", "b"), ("one", "n"), ("out", "m")]]
        for word, signs in GATE_SIGNS.items():
            reads = {"one": [()], "not": [("a",), ("b",)], "flip": [("a",), ("b",)]}.get(word, [("a", "b"), ("b", "a"), ("a", "a"), ("b", "b")])
            for read in reads:
                for rows in between:
                    for first in (("in", "a"), ("one", "a")):
                        told = [first, ("in", "b"), *rows, (word, "z", *read), ("out", "z")]
                        made = Machine(told)
                        cells = laid_cells(made)
                        self.assertEqual(cells, model_cells(told))
                        gate = [sign for x, y, sign in cells if (x, y) == (made.wide() - 2, made.high() - 1)]
                        self.assertIn(gate[0], signs)

    def test_names_that_lead_far_down(self):
        rows = [("one", "a")] + [("in", name) for name in "bcdefg"] + [("not", "h", "a"), ("and", "i", "a", "h"), ("xor", "j", "b", "a"), ("hold", "k", "a", "j"), ("or", "l", "a", "b"), ("out", "l")]
        cells = laid_cells(Machine(rows))
        self.assertEqual(cells, model_cells(rows))
        self.assertEqual(len([sign for _, _, sign in cells if sign in "fghi"]), 6 + 7 + 0 + 7 + 8 + 9 + 0 + 10 + 9)

    def test_against_the_sentences(self):
        by = chance(180)
        seen = {}
        for _ in range(400):
            rows = some_machine(by)
            cells = laid_cells(Machine(rows))
            self.assertEqual(cells, model_cells(rows))
            self.assertEqual(cells, sorted(cells))
            self.assertIs(type(cells), list)
            wide, high = model_size(rows)
            for x, y, sign in cells:
                self.assertTrue(0 <= x < wide and 0 <= y < high)
                seen[sign] = True
        # A spark is no part of a machine.
        self.assertEqual("".join(sorted(seen)), "bcdefghijklmnopqrstuvwx")

    def test_laid_cells_go_on_as_they_are_laid(self):
        # Without a feed each cell at a turn has the bits of the wave so much later.
        by = chance(181)
        for _ in range(40):
            rows = some_machine(by)
            field, bits, plan = endless(laid_cells(Machine(rows))), model_bits(rows, {}, 40), model_plan(rows)
            for turn in range(1, 30):
                field = step(wires(), field)
                for (x, y), what in plan.items():
                    self.assertEqual(field.sign_at(x, y), model_sign(what, bits, turn - x - y))


class Sparks(Told):
    def test_to_the_letter(self):
        made = read_machine(AND)
        self.assertEqual(sparks(made, {"b": [1, 0, 1], "a": [0, 1]}), [(-4, 1, "a"), (-2, 0, "a"), (-2, 1, "a")])
        self.assertEqual(sparks(made, {"a": [0] * 59 + [1]}), [(-60, 0, "a")])
        for fed in ({}, {"a": []}, {"a": [0, 0], "b": []}):
            self.assertEqual(sparks(made, fed), [])
        # The row of an in is that of its name among all names.
        self.assertEqual(sparks(read_machine("one z/not a z/in b/out b"), {"b": [1]}), [(-3, 2, "a")])

    def test_by_chance(self):
        by = chance(182)
        for _ in range(200):
            rows = some_machine(by)
            fed = some_fed(by, rows)
            told = sparks(Machine(rows), fed)
            self.assertEqual(told, sparks_of(rows, fed))


class Laid(Told):
    def filled(self, x, y, field, made, at, **named):
        known = field.cells()
        self.refused(Filled, {"x": x, "y": y}, lay, field, made, *at, **named)
        self.assertEqual(field.cells(), known)

    def test_on_an_endless_field(self):
        made = read_machine(AND)
        for x, y in ((0, 0), (5, -7), (-100, 40), (FAR, FAR), (-FAR, FAR), (FAR * 10 ** 6, -FAR - 1), (-FAR - 10 ** 9, 0)):
            told = lay(endless([], turn=7), made, x, y)
            self.assertEqual(told.cells(), [(x + a, y + b, sign) for a, b, sign in laid_cells(made)])
            self.assertEqual((told.kind(), told.turn()), ("endless", 7))

    def test_beside_what_lies_there(self):
        made, field = read_machine(AND), endless([(-1, 0, "b"), (6, 2, "x"), (3, -1, "c"), (0, 4, "z")])
        told = lay(field, made, 0, 0)
        self.assertEqual(told.cells(), sorted(field.cells() + laid_cells(made)))
        self.assertEqual(lay(told, made, 0, 5).cells(), sorted(told.cells() + [(x, y + 5, sign) for x, y, sign in laid_cells(made)]))

    def test_the_first_place_that_is_filled(self):
        made = read_machine(AND)
        wide, high = made.wide(), made.high()
        self.assertEqual((wide, high), (6, 4))
        for at in ((0, 0), (-3, 5), (FAR, -FAR)):
            for down in range(high):
                for right in range(wide):
                    x, y = at[0] + right, at[1] + down
                    if not (abs(x) <= FAR and abs(y) <= FAR):
                        continue
                    # Also where the machine itself has ground.
                    self.filled(x, y, endless([(x, y, "a")]), made, at)
                    if x > at[0] and down + 1 < high:
                        # By rows: a place further left in a lower row goes behind it.
                        self.filled(x, y, endless([(x, y, "x"), (x - 1, y + 1, "b")] if abs(y + 1) <= FAR else [(x, y, "x")]), made, at)
        for x, y in ((-1, 0), (6, 0), (0, -1), (0, 4), (-1, -1), (6, 4)):
            self.assertEqual(len(lay(endless([(x, y, "x")]), made, 0, 0)), 1 + len(laid_cells(made)))

    def test_beyond_the_farthest_spots(self):
        made = read_machine(FLIPS)
        field = endless([(FAR, 0, "x")]).moved(FAR, FAR)
        self.filled(2 * FAR, FAR, field, made, (2 * FAR - 1, FAR - 1))
        self.filled(2 * FAR, FAR, field, made, (2 * FAR - 3, FAR))
        told = lay(field, made, 2 * FAR + 1, FAR, fed={})
        self.assertEqual(told.cells(), [(2 * FAR, FAR, "x")] + [(2 * FAR + 1 + x, FAR + y, sign) for x, y, sign in laid_cells(made)])
        self.filled(2 * FAR, FAR, field, made, (2 * FAR + 2, FAR), fed={"a": [0, 1]})
        self.refused(TooFar, {"most": 200}, lay, field, made, 0, 0)

    def test_too_far(self):
        made = read_machine(AND)
        for x, y, far in ((195, 1, True), (194, 1, False), (-199, 1, False), (-200, 1, True), (1, 197, True), (1, 196, False), (1, -200, True), (1, -199, False)):
            field = endless([(0, 0, "x")])
            if far:
                self.refused(TooFar, {"most": 200}, lay, field, made, x, y)
            else:
                told = lay(field, made, x, y)
                self.assertEqual(len(told), 1 + len(laid_cells(made)))
                fits(wires(), told, 0)
            self.assertEqual(field.cells(), [(0, 0, "x")])

    def test_filled_ahead_of_too_far(self):
        made = read_machine(AND)
        field = endless([(0, 0, "x"), (199, 0, "x")])
        self.filled(199, 0, field, made, (198, -1))
        self.refused(TooFar, {"most": 200}, lay, field, made, 200, 0)

    def test_on_a_torus_round_the_seams(self):
        made = read_machine(AND)
        for wide, high in ((6, 4), (7, 5), (12, 4), (6, 20)):
            for x, y in ((0, 0), (1, 1), (wide - 1, high - 1), (-1, -2), (10 ** 9 + 1, -(10 ** 9)), (3, 2)):
                told = lay(torus(["." * wide] * high, turn=3), made, x, y)
                self.assertEqual(told.cells(), sorted(((x + a) % wide, (y + b) % high, sign) for a, b, sign in laid_cells(made)))
                self.assertEqual((told.kind(), told.turn(), told.wide(), told.high()), ("torus", 3, wide, high))

    def test_filled_on_a_torus_as_counted_on(self):
        made = read_machine(AND)
        field = torus(["......", "....x.", "......", ".b....", "......"])
        # (4, 1) and (1, 3): of the two the one in the upper row of the box goes first.
        self.filled(4, 1, field, made, (0, 0))
        self.filled(4, 1, field, made, (4, 1))
        self.filled(7, 3, field, made, (5, 2))
        self.filled(-2, -4, field, made, (-3, -4))
        self.filled(4 + 600, 6, field, made, (600, 4))
        self.filled(1 - 6, 3 - 500, field, made, (-6, 2 - 500))

    def test_a_torus_that_is_too_small(self):
        made = read_machine(AND)
        for wide, high in ((5, 4), (6, 3), (5, 3), (1, 1), (32, 3), (5, 32)):
            for x, y in ((0, 0), (4, 2), (-7, 10 ** 9)):
                self.filled(x, y, torus(["." * wide] * high), made, (x, y))
                self.filled(x, y, torus([".x.b."[:wide] + "." * (wide - 5)] * high), made, (x, y))
        self.assertEqual(len(lay(torus(["......"] * 4), made, 3, 3)), len(laid_cells(made)))

    def test_in_a_box(self):
        made = read_machine(AND)
        for edge in ".cx":
            field = box(["........"] * 6, edge, turn=2)
            for x in range(3):
                for y in range(3):
                    told = lay(field, made, x, y)
                    self.assertEqual(told.cells(), [(x + a, y + b, sign) for a, b, sign in laid_cells(made)])
                    self.assertEqual((told.kind(), told.turn(), told.edge(), told.wide(), told.high()), ("box", 2, edge, 8, 6))
            # By rows: of a box that goes out below the first place outside is the first one of the row below.
            for x, y, at in ((8, 0, (3, 0)), (8, 1, (7, 1)), (0, 6, (0, 3)), (2, 6, (2, 5)), (-1, 0, (-1, 0)), (-4, 2, (-4, 2)), (0, -1, (0, -1)), (3, -2, (3, -2)),
                             (8, 3, (3, 3)), (20, 20, (20, 20)), (-10 ** 9, 10 ** 9, (-10 ** 9, 10 ** 9))):
                self.filled(x, y, field, made, at)
        field = box(["........", "........", "...x....", "........", "........"], ".")
        self.filled(3, 2, field, made, (1, 0))
        self.filled(3, 2, field, made, (2, 2))
        # What is filled goes ahead of what lies outside in a lower row, and behind what lies outside in its own or an upper one.
        self.filled(3, 2, field, made, (0, 2))
        self.filled(8, 1, field, made, (3, 1))
        self.filled(8, 0, field, made, (3, 0))

    def test_the_field_stays(self):
        made = read_machine(AND)
        for field in (endless([(-1, 0, "c")]), torus(["c......"] + ["......."] * 4), box(["c......"] + ["......."] * 4, "c")):
            known = (field.cells(), field.turn(), field.frame(), field.wide(), field.high())
            lay(field, made, 1, 1)
            lay(field, made, 1, 1, fed={"b": [0]})
            self.assertEqual((field.cells(), field.turn(), field.frame(), field.wide(), field.high()), known)


class Turned(Told):
    def follow(self, field, rows, x, y, turns):
        """Behind each turn each cell of the box has the bits of its wave, by what stood west of the first cells of its ins."""
        names, plan = [row[1] for row in made_by(rows)], model_plan(rows)
        fed = {name: {} for name in ins_of(rows)}
        fields = [field]
        for _ in range(turns):
            fields.append(step(wires(), fields[-1]))
        for turn, one in enumerate(fields):
            for name in fed:
                down = names.index(name)
                sign = one.sign_at(x - 1, y + down)
                fed[name][turn + 1 - down] = 1 if sign in GIVES_RIGHT else 0
        # What is known of the ins by the last turn is known of all waves that have come into the box by then.
        bits = model_bits(rows, fed, turns)
        for turn, one in enumerate(fields):
            for (a, b), what in plan.items():
                self.assertEqual(one.sign_at(x + a, y + b), model_sign(what, bits, turn - a - b), (text_of(rows), turn, a, b))
        return sum(sum(waves.values()) for waves in fed.values())

    def test_whatever_lies_outside_of_its_box(self):
        by = chance(183)
        seen = {"endless": 0, "torus": 0, "box": 0}
        for at in range(90):
            rows = some_machine(by, 8)
            wide, high = model_size(rows)
            kind = ("endless", "torus", "box")[at % 3]
            if kind == "endless":
                field, x, y = endless([]), by.randint(-50, 50), by.randint(-50, 50)
            else:
                across, down = by.randint(wide, min(32, wide + 9)), by.randint(high, high + 6)
                blank = ["." * across] * down
                field = torus(blank) if kind == "torus" else box(blank, by.choice(WIRED))
                x, y = (by.randrange(across), by.randrange(down)) if kind == "torus" else (by.randint(0, across - wide), by.randint(0, down - high))
            field = lay(noise(by, field, rows, x, y, 25), Machine(rows), x, y)
            seen[kind] += self.follow(field, rows, x, y, 40)
        self.assertGreater(min(seen.values()), 30)

    def test_at_later_turns(self):
        # A machine's waves are counted from the turn at which it is laid.
        by = chance(184)
        for _ in range(20):
            rows = some_machine(by, 6)
            field = lay(noise(by, endless([], turn=10 ** 9 - 7), rows, 3, 4, 20), Machine(rows), 3, 4)
            self.follow(field, rows, 3, 4, 30)

    def test_a_torus_just_as_large(self):
        by = chance(185)
        for _ in range(30):
            rows = some_machine(by, 6)
            wide, high = model_size(rows)
            field = lay(torus(["." * wide] * high), Machine(rows), by.randrange(wide), by.randrange(high))
            self.assertEqual(len(field), len(model_cells(rows)))
            x, y = by.randrange(wide), by.randrange(high)
            self.follow(lay(torus(["." * wide] * high), Machine(rows), x, y), rows, x, y, 40)

    def test_its_feed(self):
        by = chance(186)
        for _ in range(60):
            rows = some_machine(by, 9)
            fed = some_fed(by, rows, 40)
            field = lay(endless([]), Machine(rows), 0, 0, fed=fed)
            bits, plan = model_bits(rows, by_waves(fed), 50), model_plan(rows)
            for turn in range(50):
                if turn % 7 == 3:
                    for (x, y), what in plan.items():
                        self.assertEqual(field.sign_at(x, y), model_sign(what, bits, turn - x - y))
                field = step(wires(), field)


class Fed(Told):
    def test_the_machine_and_its_sparks(self):
        by = chance(187)
        for at in range(60):
            rows = some_machine(by, 8)
            fed, (x, y) = some_fed(by, rows), by.choice(((0, 0), (-4, 9), (FAR, -FAR), (10 ** 12, -(10 ** 12))))
            told = lay(endless([], turn=at), Machine(rows), x, y, fed=fed)
            self.assertEqual(told.cells(), sorted((x + a, y + b, sign) for a, b, sign in model_cells(rows) + sparks_of(rows, fed)))
            self.assertEqual(told.turn(), at)

    def test_nothing_is_fed(self):
        made = read_machine(AND)
        for field in (endless([(9, 9, "b")]), torus(["........"] * 5), box(["........"] * 5, "a")):
            known = lay(field, made, 1, 1)
            for fed in (None, {}, {"a": []}, {"b": [], "a": []}, {"a": [0] * 60}):
                self.assertEqual(lay(field, made, 1, 1, fed=fed), known)

    def test_filled_at_a_sparks_place(self):
        made = read_machine(AND)
        fed = {"a": [1, 0, 1], "b": [1, 1]}
        self.assertEqual(sparks(made, fed), [(-3, 0, "a"), (-3, 1, "a"), (-2, 1, "a"), (-1, 0, "a")])
        for x, y, known in ((-3, 0, True), (-3, 1, True), (-2, 1, True), (-1, 0, True), (-2, 0, False), (-1, 1, False), (-4, 0, False)):
            field = endless([(x + 7, y - 5, "a")])
            if known:
                self.refused(Filled, {"x": x + 7, "y": y - 5}, lay, field, made, 7, -5, fed=fed)
            else:
                self.assertEqual(len(lay(field, made, 7, -5, fed=fed)), 1 + 4 + len(laid_cells(made)))
            self.assertEqual(field.cells(), [(x + 7, y - 5, "a")])
        # In the order of the sparks, behind all of the machine's own box.
        field = endless([(-2, 1, "x"), (-1, 0, "x"), (-3, 1, "x")])
        self.refused(Filled, {"x": -3, "y": 1}, lay, field, made, 0, 0, fed=fed)
        field = field.put(5, 3, "x")
        self.refused(Filled, {"x": 5, "y": 3}, lay, field, made, 0, 0, fed=fed)

    def test_too_far_for_a_spark(self):
        made = read_machine(FLIPS)
        field = endless([(150, 0, "x")])
        self.assertEqual(len(lay(field, made, 0, 0, fed={"a": [0] * 48 + [1]})), 2 + len(laid_cells(made)))
        self.refused(TooFar, {"most": 200}, lay, field, made, 0, 0, fed={"a": [0] * 49 + [1]})
        # Each spark is looked at ahead of the next one: what is too far goes ahead of what is filled behind it, and the other way about.
        field = field.put(-3, 0, "x")
        self.refused(TooFar, {"most": 200}, lay, field, made, 0, 0, fed={"a": [0, 0, 1] + [0] * 46 + [1]})
        self.refused(Filled, {"x": -3, "y": 0}, lay, field, made, 0, 0, fed={"a": [0, 0, 1] + [0] * 45 + [1]})
        two = read_machine("in a/in b/out a")
        field = endless([(150, 0, "x"), (-30, 0, "x")])
        # Sorted by x first: the spark of b, which is farthest off, is looked at ahead of that of a.
        self.refused(TooFar, {"most": 200}, lay, field, two, 0, 0, fed={"a": [0] * 29 + [1], "b": [0] * 48 + [1]})
        self.refused(Filled, {"x": -30, "y": 0}, lay, field, two, 0, 0, fed={"a": [0] * 29 + [1], "b": [0] * 47 + [1]})
        field = endless([(150, 0, "x"), (-31, 1, "x")])
        self.refused(Filled, {"x": -31, "y": 1}, lay, field, two, 0, 0, fed={"a": [0] * 29 + [1], "b": [0] * 29 + [1]})

    def test_in_a_box(self):
        made = read_machine(FLIPS)
        field = box(["........"] * 3, ".")
        self.assertEqual(len(lay(field, made, 3, 0, fed={"a": [1, 0, 1]})), 2 + len(laid_cells(made)))
        self.refused(Filled, {"x": -1, "y": 0}, lay, field, made, 3, 0, fed={"a": [1, 0, 1, 1]})
        self.refused(Filled, {"x": -57, "y": 1}, lay, field, made, 3, 1, fed={"a": [1] * 60})
        self.refused(Filled, {"x": -1, "y": 1}, lay, field, made, 0, 1, fed={"a": [1]})
        self.refused(Filled, {"x": 1, "y": 1}, lay, field.put(1, 1, "b"), made, 3, 1, fed={"a": [1, 1, 1]})
        self.refused(Filled, {"x": 0, "y": 1}, lay, field.put(1, 1, "b").put(0, 1, "x"), made, 3, 1, fed={"a": [1, 1, 1]})

    def test_round_a_torus(self):
        made = read_machine(FLIPS)
        wide, high = made.wide(), made.high()
        self.assertEqual((wide, high), (4, 2))
        field = torus(["......"] * 3)
        # Behind the first two places to the west the sparks come round to the box: where that is ground they are laid there, too.
        told = lay(field, made, 0, 0, fed={"a": [1, 1]})
        self.assertEqual(told.cells(), sorted([(5, 0, "a"), (4, 0, "a")] + laid_cells(made)))
        row = "".join(told.sign_at(x, 0) for x in range(6))
        self.assertEqual(row[3], ".")
        more = lay(field, made, 0, 0, fed={"a": [0, 0, 1]})
        self.assertEqual(more.cells(), sorted([(3, 0, "a")] + laid_cells(made)))
        self.refused(Filled, {"x": -4, "y": 0}, lay, field, made, 0, 0, fed={"a": [0, 0, 0, 1]})
        # Told as counted on: the spark farthest off goes first, and may fill what a nearer one would.
        self.refused(Filled, {"x": -1 + 12, "y": 6}, lay, field, made, 12, 6, fed={"a": [1, 0, 0, 0, 0, 0, 1]})
        self.refused(Filled, {"x": -60, "y": 0}, lay, field, made, 0, 0, fed={"a": [1] * 60})
        self.refused(Filled, {"x": 5 - 6, "y": 0}, lay, field.put(5, 0, "x"), made, 0, 0, fed={"a": [1]})

    def test_nothing_is_laid_where_one_is_refused(self):
        made = read_machine(AND)
        field = endless([(-5, 0, "x")])
        self.refused(Filled, {"x": -5, "y": 0}, lay, field, made, 0, 0, fed={"a": [1, 1, 1, 1, 1], "b": [1]})
        self.assertEqual(field.cells(), [(-5, 0, "x")])
        self.assertEqual(lay(field, made, 0, 0, fed={"a": [1, 1, 1, 1]}).cells(), sorted([(-5, 0, "x"), (-4, 0, "a"), (-3, 0, "a"), (-2, 0, "a"), (-1, 0, "a")] + laid_cells(made)))

    def test_what_was_handed_in_is_as_it_was(self):
        made, fed = read_machine(AND), {"b": [1, 0], "a": []}
        told = lay(endless([]), made, 0, 0, fed=fed)
        self.assertEqual((fed, list(fed)), ({"b": [1, 0], "a": []}, ["b", "a"]))
        fed["b"].append(1)
        self.assertEqual(told, lay(endless([]), made, 0, 0, fed={"b": [1]}))
        for call in (lambda: laid_cells(made), lambda: sparks(made, {"b": [1]})):
            known = call()
            call().clear()
            self.assertEqual(call(), known)
        told = read_off(run(wires(), told, 30), made, 0, 0, 30)
        known = {name: list(bits) for name, bits in told.items()}
        told["c"].clear()
        told.clear()
        self.assertEqual(read_off(run(wires(), lay(endless([]), made, 0, 0, fed={"b": [1]}), 30), made, 0, 0, 30), known)


class Off(Told):
    def test_to_the_letter(self):
        made = read_machine("in a/not b a/out b/out a")
        self.assertEqual((made.wide(), made.high()), (4, 2))
        for turns in range(20):
            cells = [(x, 0, "a") for x in (4, 7, 9)] + [(x, 1, "a") for x in (5, 6)]
            told = read_off(endless(cells), made, 0, 0, turns)
            self.assertEqual(list(told), ["b", "a"])
            self.assertEqual(len(told["a"]), max(0, turns - 4))
            self.assertEqual(len(told["b"]), max(0, turns - 5))
            # The last wave is told by the cell next to the mouth, the first one farthest off.
            self.assertEqual(told["a"], [1 if x in (4, 7, 9) else 0 for x in range(turns - 1, 3, -1)])
            self.assertEqual(told["b"], [1 if x in (5, 6) else 0 for x in range(turns - 2, 3, -1)])

    def test_just_as_many_as_have_come(self):
        by = chance(188)
        for _ in range(60):
            rows = some_machine(by, 7)
            made, (x, y) = Machine(rows), by.choice(((0, 0), (-20, 5), (FAR, FAR)))
            names = [row[1] for row in made_by(rows)]
            fed = some_fed(by, rows, 30)
            first = lay(endless([]), made, x, y, fed=fed)
            for turns in (0, 1, 2, 3, made.wide(), made.wide() + 1, made.wide() + 2, 30, 55):
                told = read_off(run(wires(), first, turns), made, x, y, turns)
                known = model_meaning(rows, fed, 60)
                self.assertEqual(told, {name: known[name][:max(0, turns - made.wide() - names.index(name))] for name in known})

    def test_turns_from_0_to_100(self):
        rows = [("in", "a"), ("one", "b"), ("flip", "c", "b"), ("xor", "d", "a", "c"), ("out", "d"), ("out", "a")]
        by = chance(189)
        made, fed = Machine(rows), {"a": [by.randint(0, 1) for _ in range(40)]}
        field, known = lay(endless([]), made, -3, 8, fed=fed), model_meaning(rows, fed, 100)
        for turns in range(101):
            self.assertEqual(read_off(field, made, -3, 8, turns), {"d": known["d"][:max(0, turns - 11)], "a": known["a"][:max(0, turns - 8)]})
            # At one go 100 turns would be too far.
            field = step(wires(), field)

    def test_sparks_alone_are_looked_at(self):
        made = read_machine("in a/out a")
        for sign in SIGNS:
            field = endless([(3, 0, sign), (5, 0, "a")]) if sign != "." else endless([(5, 0, "a")])
            self.assertEqual(read_off(field, made, 0, 0, 9), {"a": [0, 0, 0, 1, 0, 1 if sign == "a" else 0, 0]})

    def test_laid_or_not(self):
        made = read_machine(AND)
        self.assertEqual(read_off(endless([]), made, 0, 0, 12), {"c": [0] * 4, "d": [0] * 3})
        field = endless([(x, 2, "a") for x in range(-9, 30)])
        self.assertEqual(read_off(field, made, 0, 0, 12), {"c": [1] * 4, "d": [0] * 3})
        self.assertEqual(read_off(field, made, 0, 0, 10), {"c": [1, 1], "d": [0]})
        self.assertEqual(read_off(field, made, 0, -1, 10), {"c": [0, 0], "d": [1]})
        for turns in range(9):
            self.assertEqual(read_off(field, made, 0, 0, turns), {"c": [], "d": []})

    def test_other_sparks_that_fly(self):
        made = read_machine("in a/not b a/out b")
        field = lay(endless([(9, 1, "a"), (12, 1, "a"), (20, 5, "a")]), made, 0, 0)
        later = run(wires(), field, 12)
        self.assertEqual(read_off(later, made, 0, 0, 12), {"b": [1] * 7})
        # A spark that is next to the mouth already when the machine is laid is ahead of the wave 1.
        self.assertEqual(read_off(run(wires(), lay(endless([(4, 1, "a")]), read_machine(FLIPS), 0, 0), 12), read_machine(FLIPS), 0, 0, 12), {"b": [0] * 7})
        crossing = endless([(6, 1, "a"), (4, 1, "a")])
        self.assertEqual(read_off(crossing, read_machine(FLIPS), 0, 0, 9), {"b": [0, 1, 0, 1]})

    def test_beyond_the_farthest_spots(self):
        made = read_machine(AND)
        for x, y in ((FAR, FAR), (-FAR, FAR), (10 ** 12, -(10 ** 12))):
            field = run(wires(), lay(endless([]), made, x, y, fed={"a": [1, 1, 0], "b": [0, 1, 1]}), 20)
            self.assertEqual(read_off(field, made, x, y, 20), {"c": [0, 1] + [0] * 10, "d": [1, 0] + [1] * 9})

    def test_no_outs(self):
        for turns in (0, 10, 100):
            self.assertEqual(read_off(endless([(5, 0, "a")]), read_machine("in a"), 0, 0, turns), {})

    def test_all_is_defined_in_the_file(self):
        for name in ("laid_cells", "sparks", "lay", "read_off"):
            self.assertEqual(getattr(file, name).__module__, "cellscript.laying")


class Whole(Told):
    def machines(self, seed, many):
        by = chance(seed)
        for _ in range(many):
            rows = some_machine(by, 9)
            yield by, rows, Machine(rows), some_fed(by, rows, 30), by.randint(-40, 40), by.randint(-40, 40)

    def test_what_is_read_off_is_its_meaning(self):
        seen = 0
        for by, rows, made, fed, x, y in self.machines(190, 60):
            field = lay(endless([], turn=by.randint(0, 99)), made, x, y, fed=fed)
            turns = by.choice((60, 61, by.randint(0, 60)))
            told = read_off(run(wires(), field, turns), made, x, y, turns)
            known = meaning(made, fed, 60)
            self.assertEqual(told, {name: known[name][:len(bits)] for name, bits in told.items()})
            self.assertEqual(sorted(told), sorted(known))
            seen += sum(len(bits) for bits in told.values())
        self.assertGreater(seen, 1000)

    def test_by_all_ways_of_running(self):
        for by, rows, made, fed, x, y in self.machines(191, 12):
            field, turns = lay(endless([], turn=by.randint(0, 9)), made, x, y, fed=fed), by.randint(20, 50)
            known = read_off(run(wires(), field, turns), made, x, y, turns)
            self.assertEqual(known, {name: meaning(made, fed, 60)[name][:len(bits)] for name, bits in known.items()})
            for most in (1, 40):
                self.assertEqual(read_off(Kept(wires(), most=most).run(field, turns), made, x, y, turns), known)
            past = History(wires(), field)
            past.go(turns // 2)
            past.go(turns - turns // 2)
            self.assertEqual(read_off(past.field(past.last()), made, x, y, turns), known)
            for at in range(0, turns + 1, 9):
                part = read_off(past.field(past.first() + at), made, x, y, at)
                self.assertEqual(part, {name: bits[:len(part[name])] for name, bits in known.items()})
            later = field
            for part in (1, 7, turns - 8):
                later = run(wires(), later, part)
            self.assertEqual(read_off(later, made, x, y, turns), known)

    def test_beside_other_cells_out_of_the_way(self):
        # What lies above and below of the box and of the way of its sparks does nothing to them, nor what lies in the way of no spark.
        for by, rows, made, fed, x, y in self.machines(192, 40):
            field = lay(endless([]), made, x, y, fed=fed)
            high = made.high()
            for _ in range(20):
                a, b = x + by.randint(-30, 50), by.choice((y - by.randint(1, 9), y + high + by.randint(0, 9)))
                field = field.put(a, b, by.choice(WIRED))
            later = run(wires(), field, 50)
            told = read_off(later, made, x, y, 50)
            self.assertEqual(told, {name: meaning(made, fed, 60)[name][:len(bits)] for name, bits in told.items()})

    def test_two_machines_one_behind_the_other(self):
        # What the first one tells feeds the other one, whose in stands on its out's row.
        one, other = read_machine("in a/in b/xor c a b/out c"), read_machine("in a/flip b a/out b")
        fed = {"a": [1, 0, 1, 1, 0, 1], "b": [0, 1, 1, 0, 0, 1]}
        between = meaning(one, fed, 40)["c"]
        field = lay(lay(endless([]), one, 0, 0, fed=fed), other, one.wide() + 5, 2)
        later = run(wires(), field, 60)
        # The second one, laid so many turns ago as the first wave came to its own place, tells what that feeds.
        back = one.wide() + 5 + 2
        told = read_off(later, other, one.wide() + 5, 2, 60 - back)["b"]
        self.assertEqual(told, meaning(other, {"a": between}, len(told))["b"])
        self.assertGreater(len(told), 30)


if __name__ == "__main__":
    unittest.main()
