"""[43], [44], [9], and of [3] and [4] what is theirs: undoing."""

import unittest
from itertools import product

from cellscript import undo
from cellscript.errors import Early, Merging, NoWay, Odd, Restless, Strange, TooFar, TooMany
from cellscript.fields import box, endless, torus
from cellscript.plain import run
from cellscript.rules import Rule
from cellscript.ruletexts import read_rule
from cellscript.undo import merging, merging_holds, undone
from tests.support import (
    LATE, Hostile, Told, cells_of, chance, model_becomes, model_block, no_fields, no_numbers, no_rules, shown, some_parts, some_picture,
    swapping_rows, told_of, whatever, world_of,
)

FLIPPING = read_rule("halves 2 n e s w\n. 1-1=a -> a\n. 3-3=a -> a\na 1-1=a -> .\na 3-3=a -> .")
TURNING = read_rule("blocks 2\na . . . -> .a..\n. a . . -> ...a\n. . . a -> ..a.\n. . a . -> a...")
RESTLESS = (read_rule("halves 2\n. -> a\na -> ."), read_rule("blocks 2\n. . . . -> aaaa\na a a a -> ...."))
MERGING = (read_rule("halves 2 w\na -> ."), read_rule("blocks 2\na a a a -> ...."))


def model_merging(parts):
    """The least paper, looked for among all."""
    sort, many, near, _ = parts
    signs = ".abc"[:many]
    if sort == "blocks":
        fours = ["".join(four) for four in product(signs, repeat=4)]
        told = [model_block(parts, four) for four in fours]
        pairs = [(one, other) for at, one in enumerate(fours) for step, other in enumerate(fours[at + 1:], at + 1) if told[at] == told[step]]
        return min(pairs, default=None)
    papers = []
    for around in map("".join, product(signs, repeat=len(near))):
        told = {own: model_becomes(parts, own, around) for own in signs}
        papers += [(around, one, other) for one in signs for other in signs if one < other and told[one] == told[other]]
    return min(papers, default=None)


def some_swapping(by, sort, many):
    near = () if sort == "blocks" else tuple(by.sample(["n", "e", "s", "w"], by.randint(1, 2)))
    return sort, many, near, swapping_rows(by, sort, many, near, 12)


class Papers(Told):
    def test_to_the_letter(self):
        for text, paper in (
            ("halves 2", None), ("blocks 2", None), ("halves 4 n e s w", None), ("blocks 4", None),
            ("halves 2\na -> .", ("", ".", "a")), ("halves 2 w\na -> .", (".", ".", "a")), ("halves 2 w\na w=a -> .", ("a", ".", "a")),
            ("halves 3 n\nb n=a -> a", ("a", "a", "b")), ("halves 3 n e\nb e=a -> .", (".a", ".", "b")),
            ("halves 4 n\n.abc n=c -> c", ("c", ".", "a")), ("halves 4 n\n.c n=b -> b", ("b", ".", "b")),
            ("halves 2\na -> .\n. -> a", None), ("halves 3\n. -> a\na -> b\nb -> .", None), ("halves 3\n. -> a\na -> b", ("", "a", "b")),
            ("blocks 2\na a a a -> ....", ("....", "aaaa")), ("blocks 2\na a a a -> ...a", ("...a", "aaaa")),
            ("blocks 2\na a a a -> aaa.\na a a . -> aaaa", None), ("blocks 2\n.a .a .a .a -> a.a.", ("....", "...a")),
            ("blocks 3\nb . . . -> .a..\n. a . . -> b...", None), ("blocks 3\na . . . -> bbbb\nb . . . -> bbbb", ("a...", "b...")),
            ("blocks 2\n. . . . -> aaaa", ("....", "aaaa")), ("blocks 4\nc c c b -> ccca\nc c c c -> ccca", ("ccca", "cccb")),
        ):
            self.assertEqual(merging(read_rule(text)), paper, text)

    def test_reversible(self):
        self.assertIsNone(merging(FLIPPING))
        self.assertIsNone(merging(TURNING))

    def test_the_least_one(self):
        by = chance(23)
        papers = 0
        for sort, many, times in (("halves", 2, 60), ("halves", 3, 60), ("halves", 4, 40), ("blocks", 2, 60), ("blocks", 3, 30), ("blocks", 4, 10)):
            for _ in range(times):
                parts = some_parts(by, sort, many)
                if by.random() < 0.4:
                    parts = some_swapping(by, sort, many)
                    if parts[3] and by.random() < 0.5:
                        parts[3].pop(by.randrange(len(parts[3])))
                paper = merging(Rule(*parts))
                self.assertEqual(paper, model_merging(parts))
                papers += paper is None
        self.assertGreater(papers, 30)

    def test_wrong(self):
        self.refused_wrong(merging, [TURNING], [no_rules()])

    def test_too_many_then_no_way(self):
        for many in range(2, 28):
            for sort in ("around", "halves", "blocks"):
                rule = Rule(sort, many, (), [])
                calls = [(merging, (rule,)), (merging_holds, (rule, None)), (undone, (rule, endless([]), 0))]
                for call, things in calls:
                    if many > 4:
                        self.refused(TooMany, {"most": 4}, call, *things)
                    elif sort == "around":
                        self.refused(NoWay, {}, call, *things)
                    else:
                        call(*things)


class Holds(Told):
    def test_each_paper_of_the_right_form(self):
        by = chance(24)
        for sort, many in (("halves", 2), ("halves", 3), ("halves", 4), ("blocks", 2), ("blocks", 3)):
            for _ in range(6):
                parts = some_parts(by, sort, many)
                rule, signs = Rule(*parts), ".abc"[:many]
                if sort == "blocks":
                    fours = ["".join(four) for four in product(signs, repeat=4)]
                    for one in by.sample(fours, min(len(fours), 20)):
                        for other in fours:
                            known = one < other and model_block(parts, one) == model_block(parts, other)
                            self.assertIs(merging_holds(rule, (one, other)), known)
                    continue
                arounds = ["".join(around) for around in product(signs, repeat=len(rule.near()))]
                for around in by.sample(arounds, min(len(arounds), 20)):
                    for one, other in product(signs, repeat=2):
                        known = one < other and model_becomes(parts, one, around) == model_becomes(parts, other, around)
                        self.assertIs(merging_holds(rule, (around, one, other)), known)

    def test_what_is_told_holds(self):
        by = chance(25)
        for sort in ("halves", "blocks"):
            for _ in range(40):
                rule = Rule(*some_parts(by, sort, by.choice((2, 3))))
                paper = merging(rule)
                if paper is not None:
                    self.assertIs(merging_holds(rule, paper), True)

    def test_not_the_least_alone(self):
        halves, blocks = MERGING
        for around in (".", "a"):
            self.assertIs(merging_holds(halves, (around, ".", "a")), True)
            self.assertIs(merging_holds(halves, (around, "a", ".")), False)
            self.assertIs(merging_holds(halves, (around, "a", "a")), False)
        self.assertIs(merging_holds(blocks, ("....", "aaaa")), True)
        self.assertIs(merging_holds(blocks, ("aaaa", "....")), False)
        self.assertIs(merging_holds(blocks, ("....", "....")), False)

    def test_whatever_is_handed_in(self):
        things = [*whatever(), (Hostile(), Hostile()), (Hostile(), Hostile(), Hostile()), ([], []), ({}, {}, {})]
        for rule in (*MERGING, FLIPPING, TURNING, read_rule("halves 2\na -> ."), read_rule("blocks 2\n.a .a .a .a -> ....")):
            for thing in things:
                self.assertIs(merging_holds(rule, thing), False, shown(thing))

    def test_of_halves(self):
        rule = read_rule("halves 2 w e\na -> .")
        self.assertIs(merging_holds(rule, ("a.", ".", "a")), True)
        right = ["a.", ".", "a"]
        for at in range(3):
            for thing in [*whatever(), "b", "..", "a..", ".a", "", "z", "A", [right[at]], (right[at],)]:
                if type(thing) is str and (at == 0 and len(thing) == 2 and set(thing) <= set(".a") or thing == right[at]):
                    continue
                paper = tuple([*right[:at], thing, *right[at + 1:]])
                self.assertIs(merging_holds(rule, paper), False, shown(paper))
        for paper in (right, ("a.", ".", "a", "a"), ("a.", "."), ("a.", ".a"), (), ("....", "aaaa"), "a..", {0: "a.", 1: ".", 2: "a"},
                      (".", "a", "a."), ("a.", "a", "."), ("a.", ".", "."), ("a.", "a", "a"), ("a", ".", "a"), ("a.a", ".", "a")):
            self.assertIs(merging_holds(rule, paper), False, shown(paper))

    def test_of_halves_of_signs_that_the_rule_has(self):
        rule = read_rule("halves 3 w\nab -> .")
        for paper in ((".", ".", "b"), ("b", "a", "b"), (".", ".", "a")):
            self.assertIs(merging_holds(rule, paper), True)
        for paper in (("c", ".", "a"), (".", ".", "c"), (".", "c", "d"), (".", "a", "z")):
            self.assertIs(merging_holds(rule, paper), False)

    def test_of_blocks(self):
        rule = read_rule("blocks 2\na a a a -> ....")
        right = ["....", "aaaa"]
        for at in range(2):
            for thing in [*whatever(), "...", ".....", "....a", "aaab", "bbbb", "zzzz", "", list(right[at]), (right[at],)]:
                paper = tuple([*right[:at], thing, *right[at + 1:]])
                self.assertIs(merging_holds(rule, paper), False, shown(paper))
        for paper in (right, ("....", "aaaa", "aaaa"), ("....",), (), "....aaaa", ("", "....", "aaaa"), {0: "....", 1: "aaaa"}):
            self.assertIs(merging_holds(rule, paper), False, shown(paper))

    def test_papers_are_as_they_were(self):
        paper = ["....", ["aaaa"]]
        merging_holds(TURNING, paper)
        self.assertEqual(paper, ["....", ["aaaa"]])


class Undone(Told):
    def test_wrong(self):
        wrong = [no_rules(), no_fields(), no_numbers(0, 100)]
        self.refused_wrong(undone, [TURNING, torus(["aa", ".."], turn=9), 3], wrong)
        for rule, field in ((Rule("around", 5, (), []), torus(["z"])), (MERGING[0], endless([])), (RESTLESS[0], endless([])), (FLIPPING, torus(["a"]))):
            self.refused_wrong(undone, [rule, field, 3], wrong)

    def due(self, error, kept, rule, field, turns=(0, 1, 100)):
        for many in turns:
            self.refused(error, kept, undone, rule, field, many)

    def test_merging_ahead_of_a_run(self):
        for rule, paper in zip(MERGING, ((".", ".", "a"), ("....", "aaaa"))):
            for field in (torus(["z"]), torus(["a"]), endless([(0, 0, "a"), (199, 0, "a")]), endless([]), box(["a"], "z")):
                self.due(Merging, {"paper": paper}, rule, field)
        self.due(Merging, {"paper": ("....", "aaaa")}, read_rule("blocks 2\n. . . . -> aaaa"), endless([]))

    def test_strange(self):
        for rule in (FLIPPING, TURNING, *RESTLESS):
            self.due(Strange, {"sign": "b"}, rule, torus(["cb."]))
            self.due(Strange, {"sign": "c"}, rule, box(["d."], "c"))
            self.due(Strange, {"sign": "z"}, rule, endless([(0, 0, "z"), (199, 0, "a")]))

    def test_restless(self):
        for rule in RESTLESS:
            self.due(Restless, {}, rule, endless([]))
            self.due(Restless, {}, rule, endless([(0, 0, "a"), (199, 0, "a")], turn=3))
            self.assertEqual(undone(rule, torus(["aa", "aa"], turn=1), 1).turn(), 0)

    def test_odd(self):
        for rule in (FLIPPING, TURNING, *RESTLESS):
            for picture in (["a"], ["a."], ["a", "a"], ["a.."] * 2, [".."] * 3):
                self.due(Odd, {}, rule, torus(picture))

    def test_too_far(self):
        for rule in (FLIPPING, TURNING):
            for long, turns in ((200, 1), (199, 1), (1, 100), (3, 99)):
                spots = [(0, 0, "a"), (0, long - 1, "a")] if long > 1 else [(0, 0, "a")]
                self.due(TooFar, {"most": 200}, rule, endless(spots), [turns])
                self.due(TooFar, {"most": 200}, rule, endless(spots, turn=LATE), [turns])
            self.assertEqual(undone(rule, endless([(0, 0, "a"), (0, 197, "a")], turn=1), 1).turn(), 0)
            self.assertEqual(undone(rule, endless([(0, 0, "a"), (0, 199, "a")], turn=1), 0).turn(), 1)

    def test_early(self):
        for rule in (FLIPPING, TURNING):
            for field in (torus(["a.", ".."]), box(["a."], "a"), endless([(0, 0, "a")])):
                for turn in (0, 1, 5, 98):
                    self.refused(Early, {"now": turn}, undone, rule, field.dated(turn), turn + 1)
                    self.assertEqual(undone(rule, field.dated(turn), turn).turn(), 0)
        self.refused(Early, {"now": 99}, undone, TURNING, torus(["a.", ".."], turn=99), 100)
        self.refused(TooFar, {"most": 200}, undone, TURNING, endless([(0, 0, "a"), (9, 9, "a")]), 100)

    def test_no_turns(self):
        for rule in (FLIPPING, TURNING):
            for field in (torus(["a.", ".."]), box(["a"], "."), endless([(0, 0, "a")], turn=LATE), endless([])):
                self.assertEqual(undone(rule, field, 0), field)

    def test_to_the_letter(self):
        self.assertEqual(undone(TURNING, torus([".a..", "...."], turn=1), 1), torus(["a...", "...."]))
        self.assertEqual(undone(TURNING, torus(["a...", "...."], turn=2), 1), torus(["....", "a..."], turn=1))
        cycle = read_rule("halves 3\n. -> a\na -> b\nb -> .")
        self.assertEqual(undone(cycle, torus(["a.", ".."], turn=1), 1), torus(["..", ".b"]))
        self.assertEqual(undone(cycle, torus(["ab", ".a"], turn=1), 1), torus([".b", ".."]))
        self.assertEqual(undone(cycle, torus(["ab", ".a"], turn=2), 1), torus(["aa", "ba"], turn=1))
        self.assertEqual(undone(TURNING, endless([(1, 0, "a")], turn=1), 1), endless([(0, 0, "a")]))
        self.assertEqual(undone(TURNING, endless([(1, 0, "a")], turn=LATE), 1).turn(), LATE - 1)

    def some_field(self, by, kind, many, turn):
        sizes = (2, 4, 6) if kind == "torus" else (1, 2, 3, 4, 5)
        picture = some_picture(by, many, by.choice(sizes), by.choice(sizes))
        if kind == "endless":
            return endless(cells_of(picture, by.randint(-4, 4), by.randint(-4, 4)), turn=turn)
        return torus(picture, turn=turn) if kind == "torus" else box(picture, by.choice(".abc"[:many]), turn=turn)

    def rules(self, by):
        told = [("halves", 2, FLIPPING.near(), FLIPPING.rows()), ("blocks", 2, (), TURNING.rows())]
        for sort in ("halves", "blocks"):
            for many in (2, 3, 4):
                told += [some_swapping(by, sort, many) for _ in range(6)]
        return told

    def test_back_and_forth(self):
        by = chance(26)
        moved = 0
        for parts in self.rules(by):
            rule = Rule(*parts)
            self.assertIsNone(merging(rule))
            for kind in ("endless", "torus", "box"):
                for _ in range(4):
                    turn, turns = by.randint(7, 9), by.randint(0, 7)
                    field = self.some_field(by, kind, parts[1], turn)
                    later = run(rule, field, turns)
                    self.assertEqual(undone(rule, later, turns), field)
                    elder = undone(rule, field, turns)
                    self.assertEqual(elder.turn(), turn - turns)
                    self.assertEqual(run(rule, elder, turns), field)
                    moved += elder.cells() != field.cells()
        self.assertGreater(moved, 60)

    def test_by_the_model(self):
        by = chance(27)
        for parts in self.rules(by):
            for kind in ("endless", "torus", "box"):
                field = self.some_field(by, kind, parts[1], 3)
                world = world_of(undone(Rule(*parts), field, 3))
                for _ in range(3):
                    world = world.next(parts)
                self.assertEqual((world.cells(), world.turn), (field.cells(), 3))

    def test_in_parts_as_at_one_go(self):
        by = chance(28)
        for parts in self.rules(by):
            rule, field = Rule(*parts), self.some_field(by, "torus", parts[1], 20)
            self.assertEqual(undone(rule, undone(rule, field, 3), 5), undone(rule, field, 8))

    def test_100_turns(self):
        for rule in (FLIPPING, TURNING):
            for field in (torus(["a..a", "...."] * 3, turn=3), box(["a..a", ".aa."], "a", turn=3)):
                self.assertEqual(undone(rule, run(rule, field, 100), 100), field)

    def test_an_elder_one_may_be_refused_to_run(self):
        flying = read_rule("blocks 2\na . . . -> ...a\n. . . a -> a...")
        field = endless([(0, 0, "a"), (197, 197, "a")], turn=2)
        elder = undone(flying, field, 1)
        self.assertEqual(elder, endless([(-1, -1, "a"), (198, 198, "a")], turn=1))
        self.refused(TooFar, {"most": 200}, run, flying, elder, 1)

    def test_nothing_is_changed(self):
        field, rows = torus(["a...", "...."], turn=5), TURNING.rows()
        known = told_of(field)
        undone(TURNING, field, 4)
        merging(TURNING)
        self.assertEqual((told_of(field), TURNING.rows()), (known, rows))
        self.assertEqual(undone(TURNING, field, 4), undone(TURNING, field, 4))

    def test_all_is_defined_in_the_file(self):
        for name in ("merging", "merging_holds", "undone"):
            self.assertEqual(getattr(undo, name).__module__, "cellscript.undo")


if __name__ == "__main__":
    unittest.main()
