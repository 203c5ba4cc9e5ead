"""[60], [61], [62], [6], and of [3], [4] and [45] what is theirs: papers, and cells that lie apart."""

import unittest

from cellscript import patterns
from cellscript.errors import Restless, Strange
from cellscript.fields import endless
from cellscript.guns import gun_holds, gun_of
from cellscript.clear import clear_of
from cellscript.patterns import apart, paper_holds, paper_of, where_at
from cellscript.plain import run
from cellscript.rules import Rule
from cellscript.ruletexts import read_rule
from tests.model_patterns import model_fields, model_fits, model_paper, moved
from tests.support import SORTS, Hostile, Like, Told, cells_of, chance, model_spot, nested, shown, some_parts, some_picture, whatever

ALL = "n ne e se s sw w nw"
LIFE = read_rule(f"around 2 {ALL}\n. 3-3=a -> a\na 2-3=a -> a\na -> .")
STAYING = read_rule("around 3")
BLINKING = read_rule("around 2\n. -> a\na -> .")
GLIDER = [(0, 2, "a"), (1, 0, "a"), (1, 2, "a"), (2, 1, "a"), (2, 2, "a")]
BLINKER = [(-1, 0, "a"), (0, 0, "a"), (1, 0, "a")]
SQUARE = [(0, 0, "a"), (0, 1, "a"), (1, 0, "a"), (1, 1, "a")]
# East goes what is a, south what is b; c becomes d, and d c.
GOING = read_rule("around 5 w n\n. w=a -> a\n. n=b -> b\nab -> .\nc -> d\nd -> c")
STAYING_HALVES = read_rule("halves 3 n")
SWAPPING = read_rule("halves 3\na -> b\nb -> a")
FLYING = read_rule("blocks 2\na . . . -> ...a\n. . . a -> a...")
TURNING = read_rule("blocks 2\na . . . -> .a..\n. a . . -> ...a\n. . . a -> ..a.\n. . a . -> a...")
STAYING_BLOCKS = read_rule("blocks 3")


def some_cells(by, many, wide=3, far=5):
    cells = cells_of(some_picture(by, many, by.randint(1, wide), by.randint(1, wide)), by.randint(-far, far), by.randint(-far, far))
    return cells


def some_moving_parts(by, sort, many):
    """A rule under which things last: signs go, stay and change, and where they meet what comes of it may be anything."""
    parts = some_parts(by, sort, many, keeps=True)
    if sort == "around":
        near = ("w", "e", "n", "s")
        rows = []
        for sign in by.sample(".abcd"[1:many], many - 1):
            side = by.choice(near)
            rows += [(".", (("at", side, sign), ("count", 3, 8, ".")), by.choice(".abcd"[1:many])), (sign, (("count", 4, 4, "."),), by.choice((".", sign)))]
        return sort, many, near, rows + [(".", (), ".")]
    if sort == "blocks":
        rows = [(("." ,) * 4, "....")]
        for sign in ".abcd"[1:many]:
            for at, to in enumerate(by.sample(range(4), 4)):
                four = "." * at + sign + "." * (3 - at)
                rows.append((tuple(four), "." * to + by.choice((sign, "a")) + "." * (3 - to)))
        return sort, many, (), rows
    if by.random() < 0.5:
        return parts
    # Signs that become each other, here and there beside something else.
    signs = list(".abcd"[1:many])
    rows = [(".", (), ".")] + [(one, (), other) for one, other in zip(signs, by.sample(signs, len(signs)))]
    return sort, many, ("n", "w"), [(by.choice(signs), (("at", "w", by.choice(signs)),), by.choice(signs)), *rows]


class Refused(Told):
    def calls(self, rule, cells):
        paper = ("still", 1, 0, 0)
        return [
            (paper_of, (rule, cells, 4)), (paper_holds, (rule, cells, paper)), (paper_holds, (rule, cells, None)),
            (where_at, (rule, cells, paper, 5)), (clear_of, (rule, cells, [(9, 9, "a")], 4)), (clear_of, (rule, [(9, 9, "a")], cells, 4)),
            (clear_of, (rule, cells, cells, 60)), (gun_of, (rule, cells, 4)), (gun_holds, (rule, cells, None)),
            (gun_holds, (rule, cells, ("shooting", 1, [], 1, 1, 0))),
        ]

    def due(self, error, told, rule, cells):
        for call, things in self.calls(rule, cells):
            self.refused(error, told, call, *things)

    def test_strange(self):
        self.due(Strange, {"sign": "c"}, STAYING, [(0, 0, "c")])
        self.due(Strange, {"sign": "c"}, STAYING, [(0, 0, "z"), (1, 0, "a"), (2, 0, "c"), (3, 0, "d")])
        self.due(Strange, {"sign": "y"}, STAYING_BLOCKS, [(0, 0, "y"), (0, 1, "z")])

    def test_restless(self):
        for rule in (BLINKING, read_rule("halves 2\n. -> a"), read_rule("blocks 2\n. . . . -> a...")):
            self.due(Restless, {}, rule, [(0, 0, "a")])
            self.due(Restless, {}, rule, [])

    def test_strange_ahead_of_restless(self):
        cells = [(0, 0, "a"), (1, 0, "c"), (2, 0, "b")]
        for call, things in self.calls(BLINKING, cells):
            # Of two lists the first one is refused as it is, ahead of what the second one is.
            if things[1] == cells:
                self.refused(Strange, {"sign": "b"}, call, *things)
            else:
                self.refused(Restless, {}, call, *things)

    def test_of_two_lists_the_first_one_goes_ahead(self):
        one, other = [(0, 0, "f"), (1, 0, "e")], [(0, 0, "d")]
        self.refused(Strange, {"sign": "e"}, clear_of, STAYING, one, other, 5)
        self.refused(Strange, {"sign": "d"}, clear_of, STAYING, other, one, 5)
        self.refused(Strange, {"sign": "d"}, clear_of, STAYING, [], other, 5)
        self.refused(Restless, {}, clear_of, BLINKING, [], other, 5)
        self.refused(Restless, {}, clear_of, BLINKING, [(0, 0, "a")], other, 5)
        self.refused(Strange, {"sign": "d"}, clear_of, BLINKING, other, [], 5)

    def test_not_refused(self):
        for rule in (STAYING, LIFE, FLYING, STAYING_HALVES):
            for cells in ([], [(0, 0, "a")]):
                for call, things in self.calls(rule, cells):
                    call(*things)


class Papers(Told):
    def test_to_the_letter(self):
        for rule, cells, paper in (
            (STAYING, [(0, 0, "a")], ("still", 1, 0, 0)), (STAYING, [(-7, 3, "b"), (2, 2, "a")], ("still", 1, 0, 0)),
            (STAYING_HALVES, [(0, 0, "a")], ("still", 2, 0, 0)), (STAYING_HALVES, [(1, 0, "b")], ("still", 2, 0, 0)),
            (STAYING_BLOCKS, [(0, 0, "a"), (3, 0, "a")], ("still", 2, 0, 0)),
            (LIFE, SQUARE, ("still", 1, 0, 0)), (LIFE, BLINKER, ("turning", 2, 0, 0)), (LIFE, GLIDER, ("moving", 4, 1, 1)),
            (GOING, [(0, 0, "a")], ("moving", 1, 1, 0)), (GOING, [(0, 0, "b")], ("moving", 1, 0, 1)),
            (GOING, [(0, 0, "c")], ("turning", 2, 0, 0)), (GOING, [(0, 0, "c"), (5, 0, "d")], ("turning", 2, 0, 0)),
            (GOING, [(0, 0, "a"), (5, 0, "c")], None), (GOING, [(0, 0, "a"), (0, 5, "b")], None),
            (SWAPPING, [(0, 0, "a")], ("turning", 4, 0, 0)), (SWAPPING, [(0, 0, "a"), (1, 0, "a")], ("turning", 4, 0, 0)),
            (FLYING, [(0, 0, "a")], ("moving", 1, 1, 1)), (FLYING, [(1, 1, "a")], ("moving", 1, -1, -1)),
            (FLYING, [(1, 0, "a")], ("still", 2, 0, 0)), (FLYING, [(0, 1, "a"), (9, 0, "a")], ("still", 2, 0, 0)),
            (TURNING, [(0, 0, "a")], ("turning", 4, 0, 0)), (TURNING, [(1, 0, "a")], ("turning", 4, 0, 0)),
            (LIFE, [(0, 0, "a")], None), (LIFE, [], None), (STAYING, [], None),
        ):
            self.assertEqual(paper_of(rule, cells, 40), paper, (rule, cells))
            self.assertIs(type(paper_of(rule, cells, 40)), type(paper))

    def test_of_at_most_so_many_turns(self):
        for rule, cells, turns in ((LIFE, GLIDER, 4), (LIFE, BLINKER, 2), (STAYING, [(0, 0, "a")], 1), (TURNING, [(0, 0, "a")], 4)):
            for most in range(1, 41):
                paper = paper_of(rule, cells, most)
                self.assertEqual(paper is None, most < turns)
                self.assertEqual(paper, paper_of(rule, cells, 40) if most >= turns else None)
        # One that turns in 40 turns: a hand that goes round by three signs and more.
        rows = "\n".join(f"{one} -> {other}" for one, other in zip("abcdefghijklmnopqrst", "bcdefghijklmnopqrsta"))
        hand, halves = read_rule(f"around 27\n{rows}"), read_rule(f"halves 27\n{rows}")
        self.assertEqual(paper_of(hand, [(0, 0, "a")], 20), ("turning", 20, 0, 0))
        self.assertIsNone(paper_of(hand, [(0, 0, "a")], 19))
        self.assertEqual(paper_of(halves, [(0, 0, "a")], 40), ("turning", 40, 0, 0))
        self.assertIsNone(paper_of(halves, [(0, 0, "a")], 39))

    def test_a_shift_that_does_not_fit(self):
        for sort, turns, dx, dy in ((sort, turns, dx, dy) for sort in SORTS for turns in (1, 2, 3) for dx in (0, 1, 2) for dy in (0, 1, 2)):
            rule = {"around": STAYING, "halves": STAYING_HALVES, "blocks": STAYING_BLOCKS}[sort]
            self.assertIs(patterns.shift_fits(rule, turns, dx, dy), model_fits(sort, turns, dx, dy))
        self.assertEqual(paper_of(read_rule("halves 3 n"), [(1, 0, "a")], 1), None)
        self.assertEqual(paper_of(read_rule("blocks 3"), [(1, 0, "a")], 1), None)

    def test_still_needs_each_turn(self):
        # Behind two turns it is as it was, behind one it wasn't: it turns.
        self.assertEqual(paper_of(GOING, [(0, 0, "d")], 40), ("turning", 2, 0, 0))
        back = read_rule("blocks 2\na . . . -> .a..\n. . a . -> ...a\n. a . . -> a...\n. . . a -> ..a.")
        self.assertEqual(paper_of(back, [(0, 0, "a")], 40), model_paper(("blocks", 2, (), back.rows()), [(0, 0, "a")], 40))

    def test_the_least_turns_by_the_model(self):
        by = chance(80)
        found = {}
        for sort in SORTS:
            for _ in range(150):
                many = by.choice((2, 3, 4))
                parts = by.choice((some_moving_parts, lambda *things: some_parts(*things, keeps=True)))(by, sort, many)
                rule = Rule(*parts)
                for _ in range(2):
                    cells, most = some_cells(by, many), by.choice((1, 2, 3, 6, 12))
                    paper = paper_of(rule, cells, most)
                    self.assertEqual(paper, model_paper(parts, cells, most))
                    if paper is not None:
                        found[sort, paper[0]] = found.get((sort, paper[0]), 0) + 1
        for sort in SORTS:
            for word in ("still", "turning", "moving"):
                if (sort, word) != ("halves", "moving"):
                    self.assertGreater(found.get((sort, word), 0), 3, (sort, word))

    def test_moving_by_halves(self):
        # A pair goes to the east: ahead of its fore one another one comes, then its hind one goes.
        rule = read_rule("halves 2 w e\n. w=a e=. -> a\na w=. e=a -> .")
        pair = [(0, 0, "a"), (1, 0, "a")]
        self.assertEqual(paper_of(rule, pair, 40), ("moving", 1, 1, 0))
        for turns in range(9):
            self.assertEqual(run(rule, endless(pair), turns).cells(), moved(pair, turns, 0))
        self.assertEqual(paper_of(rule, moved(pair, -3, 1), 40), ("moving", 1, 1, 0))
        for cells in (moved(pair, 1, 0), [(0, 0, "a")], [(1, 0, "a")], moved(pair, 0, 1)):
            self.assertIsNone(paper_of(rule, cells, 40))

    def test_wherever_the_cells_are(self):
        for dx, dy in ((0, 0), (999, -70), (10 ** 6 - 2, -10 ** 6)):
            self.assertEqual(paper_of(LIFE, moved(GLIDER, dx, dy), 9), ("moving", 4, 1, 1))
        for dx, dy, shift in ((0, 0, 1), (2, 4, 1), (1, 1, -1), (7, -9, -1)):
            self.assertEqual(paper_of(FLYING, [(dx, dy, "a")], 9), ("moving", 1, shift, shift))

    def test_wide_and_many(self):
        cells = [(x, y, "a") for x in range(0, 61, 3) for y in range(0, 55, 3)]
        self.assertEqual(len(cells), 399)
        self.assertEqual(paper_of(STAYING, cells, 40), ("still", 1, 0, 0))
        self.assertEqual(paper_of(GOING, [(0, 60, "a"), (60, 0, "a")], 40), ("moving", 1, 1, 0))
        self.assertEqual(paper_of(LIFE, moved(GLIDER, -58, -58) + SQUARE, 40), None)
        self.assertEqual(paper_of(LIFE, moved(GLIDER, 0, 0) + moved(GLIDER, 58, 30), 40), ("moving", 4, 1, 1))
        rows = "\n".join(f"{one} -> {other}" for one, other in zip("bcdefghijklmnopqrst", "cdefghijklmnopqrstb"))
        growing = read_rule(f"around 27 {ALL}\n{rows}\n. 1-8=a -> a")
        self.assertIsNone(paper_of(growing, [(0, 0, "a"), (60, 60, "b")], 40))


class Holds(Told):
    def wrong(self, paper):
        """Papers that are otherwise than this one in a part."""
        word, turns, dx, dy = paper
        told = [(other, turns, dx, dy) for other in ("still", "turning", "moving", "", "shooting", None, 0, [word]) if other != word]
        told += [(word, other, dx, dy) for other in (turns + 1, turns - 1, 2 * turns, 3 * turns, -turns, 0, 41, 10 ** 30, str(turns), None, [turns], True)]
        for k in range(1, 4):
            told += [(word, turns, dx + k, dy), (word, turns, dx, dy - k), (word, turns, -dx - k, dy), (word, turns * (k + 1), dx * (k + 1), dy * (k + 1))]
        told += [(word, turns, other, dy) for other in (str(dx), None, [dx], 10 ** 50, False, Hostile())]
        told += [(word, turns, dx, other) for other in (str(dy), None, (dy,), -10 ** 50, True, Like())]
        told += [list(paper), paper[:3], (*paper, 0), (), (paper,), [paper], "still", dict(enumerate(paper)), (word, (turns, dx, dy)), None, True, 4]
        return told + [(Hostile(), turns, dx, dy), (Like(), turns, dx, dy), (word, Hostile(), dx, dy), (word, Like(), dx, dy), (word, turns, Like(), dy)]

    def test_the_very_paper_and_no_other(self):
        for rule, cells in (
            (LIFE, GLIDER), (LIFE, BLINKER), (LIFE, SQUARE), (STAYING_HALVES, [(0, 0, "a")]), (FLYING, [(0, 0, "a")]),
            (TURNING, [(5, 5, "a")]), (GOING, [(0, 0, "b")]),
        ):
            paper = paper_of(rule, cells, 40)
            self.assertIs(paper_holds(rule, cells, paper), True)
            self.assertIs(paper_holds(rule, cells, tuple(list(paper))), True)
            for thing in self.wrong(paper):
                self.assertIs(paper_holds(rule, cells, thing), False, shown(thing))

    def test_truths_are_no_numbers(self):
        self.assertIs(paper_holds(STAYING, [(0, 0, "a")], ("still", 1, 0, 0)), True)
        for paper in (("still", True, 0, 0), ("still", 1, False, 0), ("still", 1, 0, False)):
            self.assertIs(paper_holds(STAYING, [(0, 0, "a")], paper), False)
        self.assertIs(paper_holds(FLYING, [(0, 0, "a")], ("moving", 1, 1, True)), False)
        self.assertIs(paper_holds(FLYING, [(0, 0, "a")], ("moving", 1, True, 1)), False)

    def test_of_a_greater_number_that_it_divides(self):
        for many in range(2, 11):
            self.assertIs(paper_holds(LIFE, GLIDER, ("moving", 4 * many, many, many)), False)
            self.assertIs(paper_holds(LIFE, BLINKER, ("turning", 2 * many, 0, 0)), False)
            self.assertIs(paper_holds(STAYING, [(0, 0, "a")], ("still", many, 0, 0)), False)

    def test_whatever_is_handed_in(self):
        huge = [("still", 1, 0, [0] * 9990), ["still", 1, 0, 0] * 2500, tuple([0] * 10000), ("a" * 10000, 1, 0, 0), ("still", 1, nested(47), 0)]
        for rule, cells in ((LIFE, GLIDER), (STAYING, [(0, 0, "a")]), (STAYING, []), (FLYING, [(0, 0, "a")])):
            for thing in whatever() + huge + [nested(50, lambda thing: ("still", 1, 0, thing)), nested(50, lambda thing: (thing, 1, 0, 0))]:
                self.assertIs(paper_holds(rule, cells, thing), False, shown(thing))

    def test_up_to_40_turns(self):
        rows = "\n".join(f"{one} -> {other}" for one, other in zip("abcdefghijklmnopqrst", "bcdefghijklmnopqrsta"))
        halves = read_rule(f"halves 27\n{rows}")
        self.assertIs(paper_holds(halves, [(0, 0, "a")], ("turning", 40, 0, 0)), True)
        more = read_rule(f"halves 27\n{rows[:-1]}u\nu -> a")
        self.assertEqual(model_paper(("halves", 27, (), more.rows()), [(0, 0, "a")], 42), ("turning", 42, 0, 0))
        self.assertIs(paper_holds(more, [(0, 0, "a")], ("turning", 42, 0, 0)), False)

    def test_of_just_40_turns_and_41(self):
        # a goes to and fro between two d, and rests for a turn at none, or at one of them.
        rows = "around 5 w e\n. w=a -> a\na e=d -> b\na -> .\n. e=b -> b\nb w=d -> {}\nb -> .\nc -> a"
        cells = [(0, 0, "d"), (1, 0, "a"), (21, 0, "d")]
        for sign, turns in (("a", 40), ("c", 41)):
            rule = read_rule(rows.replace("{}", sign))
            paper = ("turning", turns, 0, 0)
            self.assertEqual(model_paper(("around", 5, rule.near(), rule.rows()), cells, 41), paper)
            self.assertEqual(paper_of(rule, cells, 40), paper if turns == 40 else None)
            self.assertIs(paper_holds(rule, cells, paper), turns == 40)
            self.assertEqual(clear_of(rule, cells, [(0, 9, "d")], 60), ("y", False) if turns == 40 else None)

    def test_cells_without_a_paper(self):
        for rule, cells in ((LIFE, [(0, 0, "a")]), (GOING, [(0, 0, "a"), (5, 0, "c")]), (STAYING, [])):
            for paper in (("still", 1, 0, 0), ("moving", 1, 1, 0), ("turning", 2, 0, 0), None):
                self.assertIs(paper_holds(rule, cells, paper), False)


class Where(Told):
    def test_against_plain_runs(self):
        by = chance(81)
        seen = 0
        for sort in SORTS:
            for _ in range(200):
                parts = some_moving_parts(by, sort, 3)
                rule, cells = Rule(*parts), some_cells(by, 3)
                paper = paper_of(rule, cells, 12)
                if paper is None:
                    continue
                seen += paper[0] == "moving"
                turns = paper[1]
                for turn in {0, 1, turns, turns + 1, 2 * turns, 3 * turns + turns // 2, 50, 61}:
                    if turn < 62:
                        self.assertEqual(where_at(rule, cells, paper, turn), run(rule, endless(cells), turn).cells())
        self.assertGreater(seen, 20)

    def test_later_than_any_run(self):
        for turn in (10 ** 9, 10 ** 9 - 1, 10 ** 9 - 3, 123456789):
            many, left = divmod(turn, 4)
            self.assertEqual(where_at(LIFE, GLIDER, ("moving", 4, 1, 1), turn), moved(run(LIFE, endless(GLIDER), left).cells(), many, many))
            self.assertEqual(where_at(LIFE, BLINKER, ("turning", 2, 0, 0), turn), run(LIFE, endless(BLINKER), turn % 2).cells())
            self.assertEqual(where_at(LIFE, SQUARE, ("still", 1, 0, 0), turn), SQUARE)
            self.assertEqual(where_at(FLYING, [(0, 0, "a")], ("moving", 1, 1, 1), turn), [(turn, turn, "a")])
            self.assertEqual(where_at(FLYING, [(1, 1, "a")], ("moving", 1, -1, -1), turn), [(1 - turn, 1 - turn, "a")])
            self.assertEqual(where_at(TURNING, [(0, 0, "a")], ("turning", 4, 0, 0), turn), run(TURNING, endless([(0, 0, "a")]), turn % 4).cells())

    def test_in_steps(self):
        # [6]: what a paper tells is so at every turn: each hundred turns on, it is what the run tells.
        for rule, cells in ((LIFE, GLIDER), (LIFE, BLINKER), (TURNING, [(0, 0, "a")]), (FLYING, [(3, 3, "a")]), (GOING, [(0, 0, "b"), (4, 0, "b")])):
            paper, field = paper_of(rule, cells, 40), endless(cells)
            for turn in range(0, 1000, 90):
                self.assertEqual(where_at(rule, cells, paper, turn), field.cells())
                field = run(rule, field, 90)

    def test_wherever_the_cells_are(self):
        far = moved(GLIDER, 10 ** 6 - 2, 10 ** 6 - 2)
        self.assertEqual(where_at(LIFE, far, ("moving", 4, 1, 1), 4 * 10 ** 6 + 1), moved(run(LIFE, endless(far), 1).cells(), 10 ** 6, 10 ** 6))
        self.assertEqual(where_at(STAYING, [(-10 ** 6, 10 ** 6, "b")], ("still", 1, 0, 0), 10 ** 9), [(-10 ** 6, 10 ** 6, "b")])

    def test_the_order_of_the_rows(self):
        self.assertEqual(where_at(LIFE, GLIDER, ("moving", 4, 1, 1), 7), sorted(where_at(LIFE, GLIDER, ("moving", 4, 1, 1), 7)))


class Worlds(Told):
    """[45]: what is moved by what fits the sort, or turned with its rule, has the same paper, moved and turned so."""

    def some_papers(self, seed):
        by = chance(seed)
        for sort in SORTS:
            found = 0
            while found < 25:
                parts, cells = some_moving_parts(by, sort, 3), some_cells(by, 3)
                paper = paper_of(Rule(*parts), cells, 12)
                if paper is not None and (paper[0] != "still" or by.random() < 0.2):
                    found += 1
                    yield by, sort, Rule(*parts), cells, paper

    def test_moved(self):
        for by, sort, rule, cells, paper in self.some_papers(84):
            dx, dy = by.randint(-9, 9), by.randint(-9, 9)
            if sort == "halves":
                dx += (dx + dy) % 2
            if sort == "blocks":
                dx, dy = 2 * dx, 2 * dy
            self.assertEqual(paper_of(rule, moved(cells, dx, dy), 12), paper)
            self.assertEqual(where_at(rule, moved(cells, dx, dy), paper, 29), moved(where_at(rule, cells, paper, 29), dx, dy))

    def test_turned(self):
        corners = {"around": (0, 1), "halves": (0,), "blocks": (1,)}
        for _, sort, rule, cells, (word, turns, dx, dy) in self.some_papers(85):
            for way in range(8):
                for corner in corners[sort]:
                    other = sorted((*model_spot(x, y, way, corner), sign) for x, y, sign in cells)
                    told = (word, turns, *model_spot(dx, dy, way))
                    self.assertEqual(paper_of(rule.turned(way), other, 12), told)
                    self.assertIs(paper_holds(rule.turned(way), other, told), True)


class Apart(Told):
    def test_just_as_far_and_one_farther(self):
        for by in (0, 1, 2, 7, 80, 10 ** 6):
            for dx, dy in ((by, 0), (0, by), (-by, 0), (0, -by), (by, by), (-by, by), (by, -by), (by // 2, by)):
                self.assertIs(apart([(3, -4, "a")], [(3 + dx, -4 + dy, "b")], by), False)
            for dx, dy in ((by + 1, 0), (0, by + 1), (-by - 1, 0), (0, -by - 1), (by + 1, by + 1), (by + 1, 0), (1, by + 1), (-by - 1, by)):
                self.assertIs(apart([(3, -4, "a")], [(3 + dx, -4 + dy, "b")], by), True)

    def test_each_two(self):
        one = [(0, 0, "a"), (0, 9, "a"), (9, 0, "a")]
        for by in range(12):
            other = [(20, 20, "a"), (9, 5, "b")]
            self.assertIs(apart(one, other, by), by < 5)
            self.assertIs(apart(other, one, by), by < 5)
        self.assertIs(apart(one, one, 0), False)
        self.assertIs(apart(one, moved(one, 1, 0), 0), True)
        self.assertIs(apart(one, moved(one, 1, 0), 1), False)

    def test_without_cells(self):
        for one, other in (([], []), ([], [(0, 0, "a")]), ([(0, 0, "a")], [])):
            for by in (0, 5, 10 ** 9):
                self.assertIs(apart(one, other, by), True)

    def test_against_each_two(self):
        rand = chance(82)
        for _ in range(200):
            one, other = some_cells(rand, 3), some_cells(rand, 3)
            by = rand.randint(0, 6)
            known = all(max(abs(a[0] - b[0]), abs(a[1] - b[1])) > by for a in one for b in other)
            self.assertIs(apart(one, other, by), known)

    def test_each_as_if_alone(self):
        by = chance(83)
        for sort in SORTS:
            for _ in range(25):
                parts = some_parts(by, sort, 3, keeps=True)
                rule, turns = Rule(*parts), by.randint(0, 4)
                one, other = some_cells(by, 3, 4, 0), some_cells(by, 3, 4, 0)
                far = next(dx for dx in range(99) if apart(one, moved(other, dx, dx % 3), 2 * turns))
                other = moved(other, far, far % 3)
                for turn in range(turns + 1):
                    alone = [run(rule, endless(cells), turn).cells() for cells in (one, other)]
                    self.assertEqual(run(rule, endless(one + other), turn).cells(), sorted(alone[0] + alone[1]))
                    self.assertIs(apart(alone[0], alone[1], 0), True)


class NothingIsChanged(Told):
    def test_cells_and_papers_are_as_they_were(self):
        cells, paper = list(GLIDER), ["moving", 4, 1, 1]
        known = list(cells)
        for call in (
            lambda: paper_of(LIFE, cells, 9), lambda: paper_holds(LIFE, cells, tuple(paper)), lambda: paper_holds(LIFE, cells, paper),
            lambda: where_at(LIFE, cells, tuple(paper), 9), lambda: apart(cells, cells, 3),
        ):
            one = call()
            self.assertEqual((cells, paper), (known, ["moving", 4, 1, 1]))
            self.assertEqual(call(), one)

    def test_what_was_told_is_new(self):
        for turn in (0, 1, 4, 4 * 10 ** 6):
            told = where_at(LIFE, GLIDER, ("moving", 4, 1, 1), turn)
            known = list(told)
            told.clear()
            self.assertEqual(where_at(LIFE, GLIDER, ("moving", 4, 1, 1), turn), known)
        cells = list(SQUARE)
        told = where_at(STAYING, cells, ("still", 1, 0, 0), 0)
        told.append((9, 9, "a"))
        self.assertEqual(cells, SQUARE)

    def test_all_is_defined_in_the_file(self):
        for name in ("paper_of", "paper_holds", "where_at", "apart"):
            self.assertEqual(getattr(patterns, name).__module__, "cellscript.patterns")

    def test_the_model_is_one(self):
        self.assertEqual(model_fields(("blocks", 2, (), TURNING.rows()), [(0, 0, "a")], 1)[1], [(1, 0, "a")])


if __name__ == "__main__":
    unittest.main()
