"""[51], and of [3], [4], [5] and [9] what is its: runs by kept hearts."""

import unittest

from cellscript import kept
from cellscript.errors import CellError, Odd, Restless, Strange, TooFar
from cellscript.fields import box, endless, torus
from cellscript.kept import Kept
from cellscript.plain import run, step
from cellscript.rules import Rule
from cellscript.ruletexts import read_rule
from cellscript.undo import undone
from tests.support import LATE, SIGNS, SORTS, Told, cells_of, chance, some_field, some_parts, some_picture, told_of

LIFE = read_rule("around 2 n ne e se s sw w nw\n. 3-3=a -> a\na 2-3=a -> a\na -> .")
STAYING = read_rule("around 3")
BLINKING = read_rule("around 2\n. -> a\na -> .")
FLIPPING = read_rule("halves 2 n e s w\n. 1-1=a -> a\n. 3-3=a -> a\na 1-1=a -> .\na 3-3=a -> .")
TURNING = read_rule("blocks 2\na . . . -> .a..\n. a . . -> ...a\n. . . a -> ..a.\n. . a . -> a...")
GLIDER = [(0, 2, "a"), (1, 0, "a"), (1, 2, "a"), (2, 1, "a"), (2, 2, "a")]
KINDS = ("endless", "torus", "box")


def some_wide_field(by, kind, sort, many, turn):
    """A field in which several squares lie."""
    if kind == "endless":
        cells = cells_of(some_picture(by, many, by.randint(5, 20), by.randint(5, 20)), by.randint(-20, 5), by.randint(-20, 5))
        return endless(by.sample(cells, min(len(cells), 60)), turn=turn)
    wide, high = by.randint(7, 19), by.randint(7, 19)
    if kind == "torus":
        even = 1 if sort == "around" else 2
        return torus(some_picture(by, many, wide // even * even, high // even * even), turn=turn)
    return box(some_picture(by, many, wide, high), by.choice(SIGNS[:many]), turn=turn)


class Runs(Told):
    def test_as_the_plain_run(self):
        by = chance(60)
        for sort in SORTS:
            for kind in KINDS:
                for turns in (0, 1, 2, 3, 4, 5, 7, 8):
                    for make in (some_field, some_wide_field):
                        parts = some_parts(by, sort, by.choice((2, 3, 27)), keeps=kind == "endless")
                        rule, field = Rule(*parts), make(by, kind, sort, parts[1], by.choice((0, 1, 4, 5, LATE)))
                        self.assertEqual(Kept(rule, most=by.choice((1, 2, 64, 256))).run(field, turns), run(rule, field, turns))

    def test_0_to_40_turns(self):
        for rule in (LIFE, FLIPPING, TURNING):
            for field in (endless(GLIDER, turn=3), torus(["a.a...", "..a..a", ".aa..."] * 2), box(["a.a...", "..a..a", ".aa..."], "a", turn=1)):
                keeper = Kept(rule)
                for turns in range(41):
                    self.assertEqual(keeper.run(field, turns), run(rule, field, turns))

    def test_small_and_odd_tori(self):
        by = chance(61)
        for wide in range(1, 10):
            for high in range(1, 10):
                rule, field = Rule(*some_parts(by, "around", 3)), torus(some_picture(by, 3, wide, high), turn=by.randint(0, 1))
                self.assertEqual(Kept(rule).run(field, 5), run(rule, field, 5))
        for sort in ("halves", "blocks"):
            for wide in (2, 4, 6, 8, 10):
                for high in (2, 4, 6, 8):
                    rule, field = Rule(*some_parts(by, sort, 3)), torus(some_picture(by, 3, wide, high), turn=by.randint(0, 1))
                    self.assertEqual(Kept(rule).run(field, 5), run(rule, field, 5))

    def test_boxes_of_all_sides(self):
        by = chance(62)
        for wide in range(1, 14):
            for high in (1, 2, 5, 6, 7, 8, 9, 10, 13):
                sort = by.choice(SORTS)
                rule = Rule(*some_parts(by, sort, 3))
                field = box(some_picture(by, 3, wide, high), by.choice(".ab"), turn=by.randint(0, 1))
                self.assertEqual(Kept(rule).run(field, 4), run(rule, field, 4))
        field = box(["a" * 32] * 31, "b")
        rule = read_rule("around 3 w\n.a w=b -> b\n.a w=. -> .\n.b w=a -> a")
        self.assertEqual(Kept(rule).run(field, 6), run(rule, field, 6))

    def test_wherever_an_endless_field_lies(self):
        by = chance(63)
        for sort in SORTS:
            rule = Rule(*some_parts(by, sort, 3, keeps=True))
            for left in range(-9, 10):
                field = endless(cells_of(some_picture(by, 3, by.randint(1, 9), by.randint(1, 9)), left, by.randint(-9, 9)), turn=by.randint(0, 1))
                self.assertEqual(Kept(rule).run(field, 6), run(rule, field, 6))
        for rule in (LIFE, FLIPPING, TURNING):
            for x, y in ((10 ** 6, -10 ** 6), (-10 ** 6, 10 ** 6)):
                field = endless([(x, y, "a"), (x, y + 1 if y < 0 else y - 1, "a")], turn=LATE)
                self.assertEqual(Kept(rule).run(field, 7), run(rule, field, 7))
            self.assertEqual(Kept(rule).run(endless([]), 9), endless([], turn=9))

    def test_one_keeper_runs_many_fields(self):
        by = chance(64)
        for sort in SORTS:
            for most in (1, 3, 256):
                rule = Rule(*some_parts(by, sort, 2, keeps=True))
                keeper = Kept(rule, most=most)
                for _ in range(30):
                    field, turns = some_field(by, by.choice(KINDS), sort, 2, by.randint(0, 3)), by.randint(0, 6)
                    self.assertEqual(keeper.run(field, turns), run(rule, field, turns))

    def test_turns_lead_back(self):
        for rule in (FLIPPING, TURNING):
            for field in (torus(["a.a.", "..a.", "a...", ".aa."]), box(["a.aa.", "..a.a"], "a", turn=1), endless(GLIDER)):
                later = Kept(rule).run(field, 12)
                self.assertEqual(undone(rule, later, 12), field)
                self.assertEqual(Kept(rule).run(undone(rule, later, 9), 9), later)


class Refused(Told):
    def test_as_the_plain_run(self):
        for rule, field, turns, error, told in (
            (STAYING, torus(["zd"]), 2, Strange, {"sign": "d"}), (STAYING, box(["a"], "c"), 0, Strange, {"sign": "c"}),
            (BLINKING, endless([]), 0, Restless, {}), (BLINKING, endless([(0, 0, "b")]), 40, Strange, {"sign": "b"}),
            (TURNING, torus(["a.", "..", ".."]), 0, Odd, {}), (FLIPPING, torus(["a"]), 9, Odd, {}),
            (LIFE, endless([(0, 0, "a"), (150, 0, "a")]), 25, TooFar, {"most": 200}),
            (LIFE, endless([(0, 0, "a")]), 100, TooFar, {"most": 200}),
        ):
            keeper = Kept(rule)
            self.refused(error, told, keeper.run, field, turns)
            self.assertEqual((keeper.keeps(), keeper.reckoned()), (0, 0))

    def test_nothing_is_kept_then(self):
        keeper = Kept(LIFE, most=8)
        keeper.run(endless(GLIDER), 6)
        known = keeper.keeps(), keeper.reckoned()
        for field, turns in ((endless(GLIDER).put(150, 0, "a"), 30), (torus(["aaaabaa"]), 8), (endless([(0, 0, "a")]), 100)):
            with self.assertRaises(CellError):
                keeper.run(field, turns)
            self.assertEqual((keeper.keeps(), keeper.reckoned()), known)
        keeper.run(endless(GLIDER), 6)
        self.assertGreaterEqual(keeper.reckoned(), known[1])

    def test_not_refused_where_the_plain_run_is_not(self):
        field = endless([(0, 0, "a"), (196, 0, "a")])
        self.assertEqual(Kept(LIFE).run(field, 1), run(LIFE, field, 1))
        growing = read_rule("around 2 w e\n. 1-2=a -> a")
        self.assertEqual(Kept(growing).run(endless([(0, 0, "a")]), 99), run(growing, endless([(0, 0, "a")]), 99))
        self.assertEqual(Kept(BLINKING).run(torus([".a."]), 3), torus(["a.a"], turn=3))


class Keeps(Told):
    def test_none_at_first(self):
        for keeper in (Kept(LIFE), Kept(LIFE, most=1), Kept(LIFE, most=256)):
            self.assertEqual((keeper.keeps(), keeper.reckoned()), (0, 0))

    def test_single_turns_reckon_nothing(self):
        keeper = Kept(LIFE)
        keeper.run(torus(["a.a"] * 3), 0)
        keeper.run(torus(["a.a"] * 3), 1)
        keeper.run(endless(GLIDER), 1)
        self.assertEqual((keeper.keeps(), keeper.reckoned()), (0, 0))

    def test_each_square_once(self):
        keeper = Kept(STAYING)
        keeper.run(torus(["a.b."] * 4), 40)
        self.assertEqual((keeper.keeps(), keeper.reckoned()), (1, 1))
        keeper.run(torus(["a.b."] * 8), 40)
        self.assertEqual((keeper.keeps(), keeper.reckoned()), (1, 1))
        keeper.run(torus(["a.b."] * 4, turn=1), 40)
        self.assertEqual((keeper.keeps(), keeper.reckoned()), (2, 2))
        keeper.run(torus(["b.a."] * 4, turn=3), 40)
        self.assertEqual((keeper.keeps(), keeper.reckoned()), (3, 3))

    def test_odd_turns_are_kept_by_themselves(self):
        for rule in (STAYING, FLIPPING, TURNING):
            keeper, field = Kept(rule), torus(["...."] * 4)
            for turn, many in ((0, 1), (6, 1), (1, 2), (7, 2), (LATE, 2), (LATE - 1, 2)):
                keeper.run(field.dated(turn), 20)
                self.assertEqual(keeper.reckoned(), many)

    def test_no_more_squares_than_there_are(self):
        by = chance(65)
        for sort in SORTS:
            for _ in range(10):
                rule = Rule(*some_parts(by, sort, 3))
                field = torus(some_picture(by, 3, 8, 12), turn=by.randint(0, 1))
                keeper, squares, now = Kept(rule, most=256), {}, field
                for _ in range(5):
                    for x in range(0, 8, 4):
                        for y in range(0, 12, 4):
                            squares[tuple(now.picture(x, y, 8, 8)), now.turn() % 2] = True
                    now = run(rule, now, 2)
                keeper.run(field, 10)
                self.assertEqual(keeper.reckoned(), len(squares))

    def test_as_many_as_reckoned_up_to_the_most(self):
        by = chance(66)
        for most in (1, 2, 64, 256):
            keeper = Kept(STAYING, most=most)
            for _ in range(60):
                keeper.run(torus(some_picture(by, 3, 8, 8)), 2)
                self.assertEqual(keeper.keeps(), min(keeper.reckoned(), most))
            self.assertEqual(keeper.reckoned(), 240)

    def test_asked_again_nothing_is_reckoned(self):
        by = chance(67)
        for sort in SORTS:
            for kind in KINDS:
                for _ in range(8):
                    parts = some_parts(by, sort, 2, keeps=True)
                    keeper, turn = Kept(Rule(*parts), most=256), by.randint(0, 3)
                    field, turns = some_field(by, kind, sort, 2, turn), by.randint(0, 12)
                    keeper.run(field, turns)
                    if keeper.keeps() == 256:
                        continue
                    many = keeper.reckoned()
                    for other in [field, field.dated(turn + 2), field.dated(turn + 100)]:
                        keeper.run(other, turns)
                    if kind == "endless":
                        for dx, dy in ((8, 0), (0, -8), (-16, 24), (8 * 10 ** 4, -8 * 10 ** 4)):
                            keeper.run(field.moved(dx, dy), turns)
                            keeper.run(field.moved(dx, dy).dated(turn + 6), turns)
                    self.assertEqual(keeper.reckoned(), many)

    def test_asked_again_where_all_were_kept(self):
        field = torus(["a..b....", "...aa...", "b......."] * 2)
        all_of_them = Kept(STAYING, most=256)
        all_of_them.run(field, 2)
        many = all_of_them.reckoned()
        self.assertGreater(many, 2)
        keeper = Kept(STAYING, most=many)
        for _ in range(3):
            keeper.run(field, 2)
            self.assertEqual((keeper.keeps(), keeper.reckoned()), (many, many))
        few = Kept(STAYING, most=many - 1)
        few.run(field, 2)
        self.assertEqual((few.keeps(), few.reckoned()), (many - 1, many))
        few.run(field, 2)
        self.assertGreater(few.reckoned(), many)
        self.assertEqual(few.keeps(), many - 1)

    def test_one_is_let_go_for_one_that_comes(self):
        fields = [torus([sign * 4] * 4) for sign in ".ab"]
        keeper = Kept(STAYING, most=2)
        keeper.run(fields[0], 2)
        keeper.run(fields[1], 2)
        keeper.run(fields[0], 2)
        keeper.run(fields[1], 2)
        self.assertEqual((keeper.keeps(), keeper.reckoned()), (2, 2))
        keeper.run(fields[2], 2)
        keeper.run(fields[2], 2)
        self.assertEqual((keeper.keeps(), keeper.reckoned()), (2, 3))
        one = Kept(STAYING, most=1)
        for at in (0, 1, 0, 0, 1, 1, 2):
            one.run(fields[at], 2)
            self.assertEqual(one.keeps(), 1)
        self.assertEqual(one.reckoned(), 5)

    def test_just_one_is_let_go(self):
        # Whichever of three kept ones is let go: the two others stand, so just one of the three is reckoned again.
        fields = [torus([sign * 4] * 4) for sign in ".abc"]
        told = []
        for field in fields[:3]:
            keeper = Kept(read_rule("around 4"), most=3)
            for again in [*fields, field]:
                keeper.run(again, 2)
            self.assertEqual(keeper.keeps(), 3)
            told.append(keeper.reckoned())
        self.assertEqual(sorted(told), [4, 4, 5])

    def test_64_where_nothing_is_told(self):
        by = chance(68)
        keeper = Kept(STAYING)
        for many in range(1, 40):
            keeper.run(torus(some_picture(by, 3, 8, 8)), 2)
            self.assertEqual(keeper.keeps(), min(4 * many, 64))

    def test_what_is_kept_changes_nothing_else(self):
        keeper = Kept(LIFE, most=2)
        field = endless(GLIDER)
        known = told_of(field)
        told = keeper.run(field, 8)
        for _ in range(3):
            self.assertEqual(keeper.run(field, 8), told)
        self.assertEqual(told_of(field), known)
        self.assertEqual(told, endless([(x + 2, y + 2, sign) for x, y, sign in GLIDER], turn=8))

    def test_two_know_nothing_of_each_other(self):
        one, other, same = Kept(LIFE), Kept(STAYING), Kept(LIFE)
        field = torus(["aaa....."] * 8)
        told = one.run(field, 4)
        self.assertEqual((other.keeps(), other.reckoned(), same.reckoned()), (0, 0, 0))
        self.assertEqual(other.run(field, 4), field.dated(4))
        self.assertEqual((same.run(field, 4), one.run(field, 4)), (told, told))
        self.assertEqual(told, run(LIFE, field, 4))
        self.assertEqual(same.reckoned(), one.reckoned())


class Parts(Told):
    def test_what_the_parts_by_two_turns_reckon(self):
        by = chance(69)
        for most in (1, 2, 64, 256):
            for sort in SORTS:
                for kind in KINDS:
                    for make in (some_field, some_wide_field):
                        parts = some_parts(by, sort, 2, keeps=kind == "endless")
                        rule, turns = Rule(*parts), by.choice((2, 4, 5, 8, 9))
                        field = make(by, kind, sort, 2, by.randint(0, 3))
                        one, other, now = Kept(rule, most=most), Kept(rule, most=most), field
                        told = one.run(field, turns)
                        for _ in range(turns // 2):
                            now = other.run(now, 2)
                        now = step(rule, now) if turns % 2 else now
                        self.assertEqual(told, now)
                        self.assertEqual((one.reckoned(), one.keeps()), (other.reckoned(), other.keeps()))

    def test_fields_that_dwindle(self):
        # What dies away on the way must not be looked at any more.
        rule = read_rule("around 3\na -> .")
        field = endless([(x, y, "b") for x in range(3) for y in range(3)] + [(60, 60, "a"), (-60, 30, "a")])
        one, other = Kept(rule, most=256), Kept(rule, most=256)
        one.run(field, 20)
        now = field
        for _ in range(10):
            now = other.run(now, 2)
        self.assertEqual(one.reckoned(), other.reckoned())
        bare = Kept(rule, most=256)
        bare.run(now, 20)
        self.assertLess(bare.reckoned(), 10)


class TheFile(Told):
    def test_all_is_defined_in_the_file(self):
        self.assertEqual(kept.Kept.__module__, "cellscript.kept")
        for name in ("run", "keeps", "reckoned"):
            self.assertIn(name, vars(Kept))


if __name__ == "__main__":
    unittest.main()
