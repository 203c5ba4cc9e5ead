"""[50], and of [3] what is its: squares and hearts."""

import unittest

from cellscript import pieces
from cellscript.pieces import heart_of
from cellscript.rules import Rule
from cellscript.ruletexts import read_rule
from tests.support import SORTS, SIGNS, Told, World, chance, some_parts, some_picture

TURNING = read_rule("blocks 2\na . . . -> .a..\n. a . . -> ...a\n. . . a -> ..a.\n. . a . -> a...")
BARE = ["........"] * 8


def capital(sign):
    """How a sign outside of a box is written."""
    return ":" if sign == "." else sign.upper()


def seen_in(world, left, top, wide):
    """So many rows and columns of a world from (left, top) on, what lies outside of a box in capitals."""
    rows = []
    for y in range(top, top + wide):
        row = ""
        for x in range(left, left + wide):
            outside = world.kind == "box" and not (0 <= x < world.wide and 0 <= y < world.high)
            row += capital(world.at(x, y)) if outside else world.at(x, y)
        rows.append(row)
    return rows


def some_world(by, kind, many, wide, high, turn):
    picture = some_picture(by, many, wide, high)
    signs = {(x, y): sign for y, row in enumerate(picture) for x, sign in enumerate(row)}
    if kind == "endless":
        return World("endless", turn, {(x - 9, y - 9): sign for (x, y), sign in signs.items()})
    return World(kind, turn, signs, by.choice(SIGNS[:many]) if kind == "box" else None, wide, high)


class Hearts(Told):
    def follow(self, parts, world, spots):
        """The squares of a world at spots have the hearts that the model tells of it."""
        rule, later = Rule(*parts), world.next(parts).next(parts)
        for left, top in spots:
            square = seen_in(world, left, top, 8)
            heart = heart_of(rule, square, world.turn % 2 == 1)
            self.assertIs(type(heart), tuple)
            self.assertEqual(list(heart), seen_in(later, left + 2, top + 2, 4))

    def test_the_middle_of_what_the_run_does(self):
        by = chance(50)
        for sort in SORTS:
            for turn in (0, 1, 6, 7):
                for _ in range(8):
                    parts = some_parts(by, sort, by.choice((2, 3, 4, 27)))
                    world = some_world(by, "torus", parts[1], 16, 12, turn)
                    self.follow(parts, world, [(-4, -8), (0, 0), (4, 4), (12, 8), (16, 12)])

    def test_on_endless_fields(self):
        by = chance(51)
        for sort in SORTS:
            for turn in (0, 1):
                for _ in range(6):
                    parts = some_parts(by, sort, 3, keeps=True)
                    world = some_world(by, "endless", 3, 17, 17, turn)
                    self.follow(parts, world, [(x, y) for x in range(-16, 13, 4) for y in (-12, -4, 0, 8)])

    def test_outside_of_a_box(self):
        by = chance(52)
        for sort in SORTS:
            for turn in (0, 1):
                for wide in range(1, 11):
                    parts = some_parts(by, sort, by.choice((2, 3)))
                    world = some_world(by, "box", parts[1], wide, by.randint(1, 10), turn)
                    self.follow(parts, world, [(x, y) for x in range(-8, 13, 4) for y in range(-8, 13, 4)])

    def test_odd_and_even(self):
        square = ["........"] * 3 + ["...a...."] + ["........"] * 4
        self.assertEqual(heart_of(TURNING, square, False), ("....", "....", "a...", "...."))
        self.assertEqual(heart_of(TURNING, square, True), ("..a.", "....", "....", "...."))
        flip = read_rule("halves 3\n. -> a\na -> b\nb -> .")
        self.assertEqual(heart_of(flip, BARE, False), ("aaaa",) * 4)
        twice = read_rule("halves 3 w\n. w=. -> a\n. w=a -> b")
        self.assertEqual(heart_of(twice, BARE, False), ("abab", "baba", "abab", "baba"))
        self.assertEqual(heart_of(twice, BARE, True), ("baba", "abab", "baba", "abab"))

    def test_around_does_not_look_at_odd(self):
        by = chance(53)
        for _ in range(20):
            rule, square = Rule(*some_parts(by, "around", 3)), some_picture(by, 3, 8, 8)
            self.assertEqual(heart_of(rule, square, True), heart_of(rule, square, False))

    def test_what_is_outside_stands(self):
        blinking = read_rule("around 2\n. -> a\na -> .")
        growing = read_rule("around 3 w e n s\n.b 1-4=a -> a")
        self.assertEqual(heart_of(blinking, ["::::::::"] * 8, False), ("::::",) * 4)
        self.assertEqual(heart_of(blinking, ["AAAAAAAA"] * 8, True), ("AAAA",) * 4)
        self.assertEqual(heart_of(growing, ["AAA....."] * 8, False), ("Aaa.",) * 4)
        self.assertEqual(heart_of(growing, [".....AAA"] * 8, False), (".aaA",) * 4)
        self.assertEqual(heart_of(growing, ["AAAAAAAA"] * 3 + ["........"] * 5, False), ("AAAA", "aaaa", "aaaa", "...."))
        self.assertEqual(heart_of(growing, ["........"] * 5 + ["AAAAAAAA"] * 3, False), ("....", "aaaa", "aaaa", "AAAA"))
        self.assertEqual(heart_of(growing, ["BBB....."] * 8, True), ("B...",) * 4)
        all_sides = ["::::::::"] * 3 + ["AAA..:::"] * 2 + ["::::::::"] * 3
        self.assertEqual(heart_of(growing, all_sides, True), ("::::", "Aaa:", "Aaa:", "::::"))

    def test_a_block_partly_outside_stays(self):
        full = read_rule("blocks 3\n.a .a .a .a -> bbbb")
        self.assertEqual(heart_of(full, ["aaaaaaaa"] * 8, False), ("bbbb",) * 4)
        self.assertEqual(heart_of(full, ["AAAaaaaa"] * 8, False), ("Aabb", "Aabb", "Aabb", "Aabb"))
        self.assertEqual(heart_of(full, ["AAAaaaaa"] * 8, True), ("Abbb", "Abbb", "Abbb", "Abbb"))

    def test_it_hangs_on_nothing_else(self):
        by = chance(54)
        for sort in SORTS:
            parts = some_parts(by, sort, 3)
            square, odd = some_picture(by, 3, 8, 8), by.random() < 0.5
            heart = heart_of(Rule(*parts), list(square), odd)
            heart_of(Rule(*some_parts(by, sort, 3)), square, odd)
            heart_of(Rule(*parts), some_picture(by, 3, 8, 8), odd)
            self.assertEqual(heart_of(Rule(*parts), square, odd), heart)

    def test_each_sign_of_the_square_counts(self):
        # A sign that is otherwise anywhere in the square may make the heart otherwise, by some rule.
        shift = {(dx, dy): read_rule(f"around 2 {place}\n.a {place}=a -> a\na -> .")
                 for place, dx, dy in (("nw", -1, -1), ("se", 1, 1), ("ne", 1, -1), ("sw", -1, 1), ("n", 0, -1), ("e", 1, 0))}
        for (dx, dy), rule in shift.items():
            for y in range(8):
                for x in range(8):
                    square = [row[:x] + "a" + row[x + 1:] if at == y else row for at, row in enumerate(BARE)]
                    told = [(x, y) for y, row in enumerate(heart_of(rule, square, False)) for x, sign in enumerate(row) if sign == "a"]
                    spot = (x - 2 * dx - 2, y - 2 * dy - 2)
                    self.assertEqual(told, [spot] if 0 <= spot[0] < 4 and 0 <= spot[1] < 4 else [])


class NothingIsChanged(Told):
    def test_the_square_is_as_it_was(self):
        for rule in (TURNING, read_rule("around 2 w\n. w=a -> a"), read_rule("halves 2 w\n. w=a -> a")):
            square = ["AA.a..a."] * 4 + ["AAa..aa."] * 4
            known = list(square)
            one = heart_of(rule, square, True)
            self.assertEqual(square, known)
            square[3] = "........"
            self.assertEqual(heart_of(rule, known, True), one)
            self.assertEqual([type(row) for row in one], [str] * 4)
            self.assertEqual([len(row) for row in one], [4] * 4)

    def test_all_is_defined_in_the_file(self):
        self.assertEqual(pieces.heart_of.__module__, "cellscript.pieces")


if __name__ == "__main__":
    unittest.main()
