"""[40] to [42], [45], of [5] what is said of parts, and of [3] and [4] what is theirs: turns and runs."""

import unittest

from cellscript import plain
from cellscript.errors import Odd, Restless, Strange, TooFar
from cellscript.fields import box, endless, torus
from cellscript.plain import fits, run, step
from cellscript.rules import Rule
from cellscript.ruletexts import read_rule
from tests.support import (
    LATE, SORTS, WAYS, World, Told, cells_of, chance, model_spot, no_fields, no_numbers, no_rules, some_endless, some_field, some_parts,
    some_picture, told_of, world_of,
)

ALL = "n ne e se s sw w nw"
LIFE = read_rule(f"around 2 {ALL}\n. 3-3=a -> a\na 2-3=a -> a\na -> .")
GROWING = read_rule(f"around 2 {ALL}\n. 1-8=a -> a")
SHIFTING = read_rule("around 3 w\n. w=a -> a\n. w=b -> b\na w=. -> .\na w=b -> b\nb w=. -> .\nb w=a -> a")
FLIPPING = read_rule("halves 2 n e s w\n. 1-1=a -> a\n. 3-3=a -> a\na 1-1=a -> .\na 3-3=a -> .")
TURNING = read_rule("blocks 2\na . . . -> .a..\n. a . . -> ...a\n. . . a -> ..a.\n. . a . -> a...")
BLINKING = read_rule("around 2\n. -> a\na -> .")


def rule_of(parts):
    return Rule(*parts)


class Turns(Told):
    def same(self, field, world):
        """A field of the program is a world of the model."""
        self.assertEqual(field.cells(), world.cells())
        known = (world.kind, world.turn, world.edge, world.wide, world.high)
        self.assertEqual((field.kind(), field.turn(), field.edge(), field.wide(), field.high()), known)

    def follow(self, parts, field, turns):
        """A field is run turn by turn as the model's world is, and at one go."""
        rule, world, now = rule_of(parts), world_of(field), field
        for _ in range(turns):
            now, world = step(rule, now), world.next(parts)
            self.same(now, world)
        self.assertEqual(run(rule, field, turns), now)

    def test_turn_by_turn(self):
        by = chance(18)
        for sort in SORTS:
            for kind in ("endless", "torus", "box"):
                for _ in range(60):
                    parts = some_parts(by, sort, by.choice((2, 3, 4, 27)), keeps=kind == "endless")
                    field = some_field(by, kind, sort, parts[1], by.choice((0, 1, 2, 5, 10 ** 9)))
                    self.follow(parts, field, 5)

    def test_around_sees_each_place(self):
        for place, spot in (
            ("n", (0, 1)), ("ne", (-1, 1)), ("e", (-1, 0)), ("se", (-1, -1)), ("s", (0, -1)), ("sw", (1, -1)), ("w", (1, 0)), ("nw", (1, 1)),
        ):
            rule = read_rule(f"around 3 {place}\n. {place}=a -> b")
            self.assertEqual(step(rule, endless([(0, 0, "a")])).cells(), sorted([(0, 0, "a"), (*spot, "b")]))
            field = step(rule, torus(["...", ".a.", "..."]))
            self.assertEqual(field.cells(), sorted([(1, 1, "a"), (spot[0] + 1, spot[1] + 1, "b")]))

    def test_all_at_once(self):
        field = torus(["ab..", "...."])
        self.assertEqual(step(SHIFTING, field).picture(0, 0, 4, 2), [".ab.", "...."])
        self.assertEqual(run(SHIFTING, field, 3), torus(["b..a", "...."], turn=3))
        self.assertEqual(run(SHIFTING, field, 100), torus(["ab..", "...."], turn=100))

    def test_life(self):
        blinker = endless([(0, 0, "a"), (1, 0, "a"), (2, 0, "a")])
        self.assertEqual(step(LIFE, blinker), endless([(1, -1, "a"), (1, 0, "a"), (1, 1, "a")], turn=1))
        self.assertEqual(run(LIFE, blinker, 90), blinker.dated(90))
        glider = endless([(1, 0, "a"), (2, 1, "a"), (0, 2, "a"), (1, 2, "a"), (2, 2, "a")])
        for turns in (0, 4, 40, 96):
            self.assertEqual(run(LIFE, glider, turns), glider.moved(turns // 4, turns // 4).dated(turns))

    def test_small_tori_count_a_place_several_times(self):
        counting = [read_rule(f"around 4 {ALL}\n.a {many}-{many}=a -> b\n.a -> c") for many in range(9)]
        for picture, around in (
            (["a"], [[8]]), (["."], [[0]]), (["a."], [[2, 6]]), (["a", "."], [[2], [6]]), (["a.", ".."], [[0, 2], [2, 4]]),
            (["aa", "aa"], [[8, 8], [8, 8]]), (["a.."], [[2, 3, 3]]), (["aa."], [[5, 5, 6]]),
        ):
            for many, rule in enumerate(counting):
                rows = ["".join("b" if count == many else "c" for count in row) for row in around]
                self.assertEqual(step(rule, torus(picture)), torus(rows, turn=1))

    def test_a_box_has_its_edge_around_it(self):
        rule = read_rule("around 4 n e s w\n.ab 2-2=c -> c\n.ab 1-1=c -> b")
        self.assertEqual(step(rule, box(["...", "...", "..."], "c")), box(["cbc", "b.b", "cbc"], "c", turn=1))
        self.assertEqual(step(rule, box(["...", "...", "..."], ".")), box(["...", "...", "..."], ".", turn=1))
        self.assertEqual(step(read_rule("around 3 nw\n. nw=b -> a"), box(["..", ".."], "b")), box(["aa", "a."], "b", turn=1))

    def test_the_edge_stays_for_ever(self):
        field = run(BLINKING, box(["a."], "a"), 3)
        self.assertEqual((field.edge(), field.picture(-1, 0, 4, 1)), ("a", ["a.aa"]))

    def test_halves_to_the_letter(self):
        rule = read_rule("halves 2\n. -> a\na -> .")
        self.assertEqual(step(rule, torus(["....", "...."])), torus(["a.a.", ".a.a"], turn=1))
        self.assertEqual(step(rule, torus(["....", "...."], turn=1)), torus([".a.a", "a.a."], turn=2))
        self.assertEqual(run(rule, torus(["....", "...."]), 2), torus(["aaaa", "aaaa"], turn=2))
        self.assertEqual(step(rule, box(["...", "..."], ".", turn=4)), box(["a.a", ".a."], ".", turn=5))

    def test_halves_below_0(self):
        rule = read_rule("halves 3\na -> b")
        cells = [(x, y, "a") for x in range(-3, 4) for y in range(-3, 4)]
        for turn in (0, 1, LATE, LATE - 1):
            told = step(rule, endless(cells, turn=turn))
            self.assertEqual(told.cells(), sorted((x, y, "b" if (x + y + turn) % 2 == 0 else "a") for x, y, _ in cells))

    def test_halves_sees_its_places(self):
        for place, spot in (("n", (0, 1)), ("e", (-1, 0)), ("s", (0, -1)), ("w", (1, 0))):
            rule = read_rule(f"halves 3 {place}\n. {place}=a -> b")
            cells = sorted([(0, 0, "a"), (*spot, "b")])
            self.assertEqual(step(rule, endless([(0, 0, "a")], turn=1)).cells(), cells)
            self.assertEqual(step(rule, endless([(0, 0, "a")], turn=2)).cells(), [(0, 0, "a")])

    def test_blocks_to_the_letter(self):
        for turn, known in (
            (0, [(0, 0), (1, 0), (1, -1), (0, -1), (0, 0), (1, 0)]), (1, [(0, 0), (-1, 0), (-1, 1), (0, 1), (0, 0), (-1, 0)]),
        ):
            field = endless([(0, 0, "a")], turn=turn)
            told = [run(TURNING, field, turns).cells() for turns in range(6)]
            self.assertEqual(told, [[(*spot, "a")] for spot in known])
        flying = read_rule("blocks 2\na . . . -> ...a\n. . . a -> a...")
        for turn, way in ((0, 1), (1, -1)):
            told = [run(flying, endless([(0, 0, "a")], turn=turn), turns).cells() for turns in range(20)]
            self.assertEqual(told, [[(way * turns, way * turns, "a")] for turns in range(20)])

    def test_blocks_on_a_torus(self):
        self.assertEqual(step(TURNING, torus(["a...", "...."])), torus([".a..", "...."], turn=1))
        self.assertEqual(step(TURNING, torus([".a..", "...."])), torus(["....", ".a.."], turn=1))
        self.assertEqual(step(TURNING, torus(["a...", "...."], turn=1)), torus(["...a", "...."], turn=2))
        self.assertEqual(step(TURNING, torus(["a...", "....", "....", "...."], turn=1)).cells(), [(3, 0, "a")])
        self.assertEqual(step(TURNING, torus(["...a", "....", "....", "...."], turn=1)).cells(), [(3, 3, "a")])
        self.assertEqual(step(TURNING, torus(["a.", ".."], turn=1)), torus([".a", ".."], turn=2))
        self.assertEqual(step(TURNING, torus(["a.", ".."])), torus([".a", ".."], turn=1))
        self.assertEqual(step(TURNING, torus([".a", ".."], turn=1)), torus(["..", ".a"], turn=2))
        self.assertEqual(step(TURNING, torus([".a", ".."])), torus(["..", ".a"], turn=1))

    def test_blocks_in_a_box(self):
        rule = read_rule("blocks 3\na a a a -> bbbb")
        self.assertEqual(step(rule, box(["aaa"] * 3, ".")).picture(0, 0, 3, 3), ["bba", "bba", "aaa"])
        self.assertEqual(step(rule, box(["aaa"] * 3, ".", turn=1)).picture(0, 0, 3, 3), ["aaa", "abb", "abb"])
        self.assertEqual(step(rule, box(["aaaa"] * 4, "a", turn=1)).picture(0, 0, 4, 4), ["aaaa", "abba", "abba", "aaaa"])
        self.assertEqual(step(rule, box(["aaaa"] * 4, "a", turn=2)).picture(0, 0, 4, 4), ["bbbb"] * 4)
        for picture in (["aaaa"], ["a", "a", "a"], ["a"]):
            for turn in (0, 1):
                self.assertEqual(step(rule, box(picture, "a", turn=turn)), box(picture, "a", turn=turn + 1))

    def test_0_to_100_turns(self):
        fields = [torus(["ab.", "..a", "b.."]), box(["ab.", "..a"], "b"), endless([(0, 0, "a")])]
        for field in fields:
            now = field
            for turns in range(101 if field.kind() != "endless" else 100):
                self.assertEqual(run(SHIFTING, field, turns), now)
                now = step(SHIFTING, now)
            self.assertEqual(field.turn(), 0)

    def test_no_turns(self):
        for field in (torus(["a"]), box(["a"], "a", turn=7), endless([(0, 0, "a")], turn=LATE), endless([])):
            self.assertEqual(run(LIFE, field, 0), field)

    def test_beyond_the_last_turn_and_the_farthest_spots(self):
        field = endless([(10 ** 6, 10 ** 6, "a")], turn=LATE)
        told = run(SHIFTING, field, 5)
        self.assertEqual((told.turn(), told.cells()), (LATE + 5, [(10 ** 6 + 5, 10 ** 6, "a")]))
        self.assertEqual(run(SHIFTING, told, 5).turn(), LATE + 10)
        self.assertEqual(told.put(10 ** 6, 10 ** 6, "b").cells(), [(10 ** 6, 10 ** 6, "b"), (10 ** 6 + 5, 10 ** 6, "a")])
        self.assertEqual((told.put(10 ** 6, 10 ** 6, "b").turn(), told.moved(1, 1).turn(), told.dated(3).turn()), (LATE + 5, LATE + 5, 3))
        grown = run(GROWING, endless([(-10 ** 6, 10 ** 6, "a")]), 2)
        self.assertEqual(grown.frame(), (-10 ** 6 - 2, 10 ** 6 - 2, -10 ** 6 + 2, 10 ** 6 + 2))

    def test_growing_to_the_most(self):
        told = run(GROWING, endless([(0, 0, "a")]), 99)
        self.assertEqual((told.frame(), len(told)), ((-99, -99, 99, 99), 199 * 199))
        told = run(GROWING, endless([(0, 0, "a"), (197, 197, "a")]), 1)
        self.assertEqual((told.frame(), len(told)), ((-1, -1, 198, 198), 18))

    def test_bare_fields(self):
        for rule in (LIFE, FLIPPING, TURNING):
            self.assertEqual(run(rule, endless([]), 100), endless([], turn=100))
        self.assertEqual(run(LIFE, endless([(0, 0, "a")]), 1), endless([], turn=1))
        self.assertEqual(run(LIFE, endless([(0, 0, "a")]), 50), endless([], turn=50))

    def test_restless_rules_where_it_is_let(self):
        self.assertEqual(step(BLINKING, torus([".a"])), torus(["a."], turn=1))
        self.assertEqual(step(BLINKING, box([".a"], ".")), box(["a."], ".", turn=1))


class Refused(Told):
    def calls(self, rule, field, turns):
        """The calls that a run of so many turns is refused by."""
        told = [(run, (rule, field, turns)), (fits, (rule, field, turns))]
        return told + [(step, (rule, field))] if turns == 1 else told

    def due(self, error, kept, rule, field, turns=(0, 1, 2, 100)):
        for many in turns:
            for call, things in self.calls(rule, field, many):
                self.refused(error, kept, call, *things)

    def let(self, rule, field, turns=(0, 1, 2, 100)):
        for many in turns:
            self.assertIsNone(fits(rule, field, many))
            self.assertEqual(run(rule, field, many).turn(), field.turn() + many)
        self.assertEqual(step(rule, field).turn(), field.turn() + 1)

    def test_wrong(self):
        wrong = [no_rules(), no_fields(), no_numbers(0, 100)]
        self.refused_wrong(run, [LIFE, torus(["a"]), 3], wrong)
        self.refused_wrong(fits, [LIFE, torus(["a"]), 3], wrong)
        self.refused_wrong(step, [LIFE, torus(["a"])], wrong[:2])

    def test_wrong_ahead_of_all_else(self):
        wrong = [no_rules(), no_fields(), no_numbers(0, 100)]
        for rule, field in ((LIFE, torus(["z"])), (BLINKING, endless([])), (TURNING, torus(["a"]))):
            self.refused_wrong(run, [rule, field, 3], wrong)
            self.refused_wrong(fits, [rule, field, 3], wrong)
            self.refused_wrong(step, [rule, field], wrong[:2])

    def test_strange(self):
        three = read_rule("around 3")
        for picture, sign in ((["c"], "c"), (["zdc"], "c"), (["z.y"], "y"), (["ab", "bd"], "d"), (["z"], "z")):
            self.due(Strange, {"sign": sign}, three, torus(picture))
            self.due(Strange, {"sign": sign}, three, box(picture, "."))
            self.due(Strange, {"sign": sign}, three, endless(cells_of(picture)))
        self.let(three, torus(["ab."]))

    def test_a_strange_edge(self):
        three = read_rule("around 3")
        for picture, edge, sign in ((["a"], "c", "c"), (["d"], "c", "c"), (["c"], "d", "c"), (["."], "z", "z"), (["y"], "z", "y")):
            self.due(Strange, {"sign": sign}, three, box(picture, edge))
        self.let(three, box(["a"], "b"))

    def test_restless(self):
        for rule in (BLINKING, read_rule("halves 2 n\n. n=. -> a"), read_rule("blocks 2\n. . . . -> a...")):
            self.due(Restless, {}, rule, endless([]))
            self.due(Restless, {}, rule, endless([(0, 0, "a")]))
            self.let(rule, torus(["..", ".a"]))
            self.let(rule, box(["..", ".a"], "."))

    def test_odd(self):
        for rule in (FLIPPING, TURNING):
            for wide, high, odd in ((1, 1, 1), (2, 1, 1), (1, 2, 1), (3, 2, 1), (2, 3, 1), (31, 32, 1), (2, 2, 0), (4, 2, 0), (32, 32, 0)):
                field = torus(["." * wide] * high)
                if odd:
                    self.due(Odd, {}, rule, field)
                else:
                    self.let(rule, field, (0, 1, 2))
                self.let(LIFE, field, (0, 1, 2))
                self.let(rule, box(["." * wide] * high, "a"), (0, 1, 2))
                self.let(rule, endless([(0, 0, "a"), (wide, high, "a")]), (0, 1, 2))

    def test_too_far(self):
        for rule in (LIFE, FLIPPING, TURNING):
            for long, turns, most in ((1, 99, 199), (2, 99, 200), (1, 100, 201), (3, 99, 201), (100, 50, 200), (101, 50, 201), (200, 0, 200),
                                      (199, 0, 199), (198, 1, 200), (199, 1, 201), (200, 1, 202), (190, 6, 202), (190, 5, 200)):
                for spot in ((long - 1, 0), (0, long - 1), (long - 1, long - 1)):
                    field = endless([(0, 0, "a")]).put(*spot, "a").moved(-50, 3)
                    if most > 200:
                        self.due(TooFar, {"most": 200}, rule, field, [turns])
                    else:
                        self.assertIsNone(fits(rule, field, turns))
                        self.assertEqual(run(rule, field, turns).turn(), turns)

    def test_nothing_is_too_far_where_it_does_not_grow(self):
        self.let(LIFE, endless([]))
        self.let(LIFE, torus(["a" * 32] * 32), (0, 1, 100))
        self.let(LIFE, box(["a" * 32] * 32, "a"), (0, 1, 100))

    def test_in_order(self):
        far = [(0, 0, "c"), (199, 0, "a")]
        self.due(Strange, {"sign": "c"}, BLINKING, endless(far), [1, 100])
        self.due(Strange, {"sign": "c"}, LIFE, endless(far), [1, 100])
        self.due(Restless, {}, BLINKING, endless([(0, 0, "a"), (199, 0, "a")]), [1, 100])
        self.due(TooFar, {"most": 200}, LIFE, endless([(0, 0, "a"), (199, 0, "a")]), [1, 100])
        self.due(Strange, {"sign": "b"}, FLIPPING, torus(["b"]))
        self.due(Odd, {}, FLIPPING, torus(["a"]))
        self.due(Odd, {}, read_rule("halves 2\n. -> a"), torus(["a"]))

    def test_what_is_refused_changes_nothing(self):
        field = torus(["a"])
        with self.assertRaises(Odd):
            run(FLIPPING, field, 5)
        self.assertEqual(field, torus(["a"]))


class Parts(Told):
    def test_in_parts_as_at_one_go(self):
        by = chance(19)
        for sort in SORTS:
            for kind in ("endless", "torus", "box"):
                for _ in range(15):
                    parts = some_parts(by, sort, by.choice((2, 3, 4)), keeps=kind == "endless")
                    rule = rule_of(parts)
                    field = some_field(by, kind, sort, parts[1], by.randint(0, 3))
                    one, other = by.randint(0, 8), by.randint(0, 8)
                    self.assertIsNone(fits(rule, field, one + other))
                    self.assertEqual(run(rule, run(rule, field, one), other), run(rule, field, one + other))

    def test_not_refused_in_parts_where_it_is_not_at_one_go(self):
        for rule in (GROWING, LIFE, FLIPPING, TURNING):
            for long in (1, 20, 100, 196):
                field = endless([(0, 0, "a"), (long - 1, 0, "a")] if long > 1 else [(0, 0, "a")])
                most = (200 - long) // 2
                for one in (0, 1, most // 2, most):
                    part = run(rule, field, one)
                    self.assertIsNone(fits(rule, part, most - one))
                    if rule is GROWING:
                        self.refused(TooFar, {"most": 200}, fits, rule, part, most - one + 1)

    def test_behind_n_turns_a_sign_hangs_on_cells_at_most_n_far(self):
        by = chance(20)
        for sort in SORTS:
            for _ in range(10):
                parts = some_parts(by, sort, 3)
                rule, turns = rule_of(parts), by.randint(1, 3)
                field = torus(some_picture(by, 3, 12, 12), turn=by.randint(0, 1))
                x, y = by.randrange(12), by.randrange(12)
                one, other = run(rule, field, turns), run(rule, field.put(x, y, by.choice(".ab")), turns)
                for a in range(12):
                    for b in range(12):
                        far = max(min((a - x) % 12, (x - a) % 12), min((b - y) % 12, (y - b) % 12))
                        if far > turns:
                            self.assertEqual(one.sign_at(a, b), other.sign_at(a, b))


class Worlds(Told):
    def test_moved_and_dated(self):
        by = chance(21)
        for sort in SORTS:
            for kind in ("endless", "torus"):
                for _ in range(40):
                    parts = some_parts(by, sort, by.choice((2, 3)), keeps=kind == "endless")
                    rule, turn = rule_of(parts), by.randint(0, 3)
                    field = some_field(by, kind, sort, parts[1], turn)
                    dx, dy, later = by.randint(-5, 5), by.randint(-5, 5), by.randint(0, 4)
                    if sort == "halves":
                        dx += (dx + dy + later) % 2
                    if sort == "blocks":
                        dx, dy = dx + (dx + later) % 2, dy + (dy + later) % 2
                    other = field.moved(dx, dy).dated(turn + later)
                    told = run(rule, field, 6)
                    self.assertEqual(run(rule, other, 6), told.moved(dx, dy).dated(turn + 6 + later))

    def test_what_does_not_fit_is_otherwise(self):
        flip = read_rule("halves 2\na -> .")
        field = endless([(0, 0, "a")])
        self.assertNotEqual(step(flip, field.moved(1, 0)), step(flip, field).moved(1, 0))
        self.assertNotEqual(step(flip, field.dated(1)), step(flip, field).dated(2))
        self.assertNotEqual(step(TURNING, field.moved(1, 1).dated(0)), step(TURNING, field).moved(1, 1))
        self.assertNotEqual(step(TURNING, field.moved(1, 0).dated(1)), step(TURNING, field).moved(1, 0).dated(2))

    def turned_world(self, field, way, corner):
        cells = [(*model_spot(x, y, way, corner), sign) for x, y, sign in field.cells()]
        return endless(cells).dated(field.turn())

    def test_turned(self):
        by = chance(22)
        for sort in SORTS:
            for corner in {"around": (0, 1), "halves": (0,), "blocks": (1,)}[sort]:
                for _ in range(12):
                    parts = some_parts(by, sort, by.choice((2, 3)), keeps=True)
                    rule = rule_of(parts)
                    field = some_endless(by, parts[1], by.randint(0, 3))
                    for way in WAYS:
                        told = run(rule.turned(way), self.turned_world(field, way, corner), 4)
                        self.assertEqual(told, self.turned_world(run(rule, field, 4), way, corner))


class NothingIsChanged(Told):
    def test_rule_and_field_are_as_they_were(self):
        for rule, field in ((LIFE, torus(["aa.", "..a", "..."])), (TURNING, endless([(0, 0, "a")])), (FLIPPING, box(["a.", ".."], "a"))):
            known, rows = told_of(field), rule.rows()
            run(rule, field, 9)
            step(rule, field)
            fits(rule, field, 9)
            self.assertEqual(told_of(field), known)
            self.assertEqual(rule.rows(), rows)
            self.assertEqual(run(rule, field, 9), run(rule, field, 9))

    def test_one_rule_runs_many_fields(self):
        one, other = torus(["a...", "...."]), torus([".a..", "...."], turn=1)
        told = [run(TURNING, field, 3) for field in (one, other, one, other)]
        self.assertEqual(told[:2], told[2:])

    def test_all_is_defined_in_the_file(self):
        for name in ("fits", "step", "run"):
            self.assertEqual(getattr(plain, name).__module__, "cellscript.plain")

    def test_the_model_is_one(self):
        # The model must not agree by being empty: it turns what the program turns.
        world = World("torus", 0, {(0, 0): "a"}, None, 4, 2)
        self.assertEqual(world.next(("blocks", 2, (), TURNING.rows())).cells(), [(1, 0, "a")])


if __name__ == "__main__":
    unittest.main()
