"""[63], [6], and of [3] what is its: cells that are clear of each other."""

import unittest

from cellscript import clear
from cellscript.clear import clear_of
from cellscript.fields import endless
from cellscript.patterns import paper_of, where_at
from cellscript.plain import run
from cellscript.ruletexts import read_rule
from tests.model_patterns import model_clear, model_paper, moved
from tests.support import Told, chance

ALL = "n ne e se s sw w nw"
LIFE = read_rule(f"around 2 {ALL}\n. 3-3=a -> a\na 2-3=a -> a\na -> .")
STAYING = read_rule("around 3")
# a goes east, b west, c south, d north, e stays; f and g take turns; h goes to the east by every other turn, as i and h.
GOING = read_rule(
    "around 10 w e n s\n. w=a -> a\n. e=b -> b\n. n=c -> c\n. s=d -> d\n. w=i -> h\nabcd -> .\nf -> g\ng -> f\nh -> i\ni -> ."
)
GLIDER = [(0, 2, "a"), (1, 0, "a"), (1, 2, "a"), (2, 1, "a"), (2, 2, "a")]
SQUARE = [(0, 0, "a"), (0, 1, "a"), (1, 0, "a"), (1, 1, "a")]
BLINKER = [(-1, 0, "a"), (0, 0, "a"), (1, 0, "a")]


def at(sign, x, y):
    return [(x, y, sign)]


def hands(sign, many):
    """A rule by which signs from a on go round, so many of them, and the ones behind these, likewise."""
    signs = "abcdefghijklmnopqrstuvwxyz"
    rows = [f"{one} -> {signs[(k + 1) % many]}" for k, one in enumerate(signs[:many])]
    left = signs[many:]
    rows += [f"{one} -> {left[(k + 1) % len(left)]}" for k, one in enumerate(left)]
    return read_rule("\n".join(["around 27", *rows]))


class Clear(Told):
    def test_just_3_greater(self):
        for dx, dy, told in (
            (3, 0, ("x", False)), (2, 0, None), (-3, 0, ("x", True)), (-2, 0, None), (0, 3, ("y", False)), (0, 2, None),
            (0, -3, ("y", True)), (0, -2, None), (2, 3, ("y", False)), (3, 3, ("x", False)), (3, -3, ("x", False)),
            (-3, 3, ("x", True)), (-3, -3, ("x", True)), (2, 2, None), (1, -3, ("y", True)), (99, 99, ("x", False)), (0, 0, None),
            (2 * 10 ** 5, 0, ("x", False)),
        ):
            self.assertEqual(clear_of(STAYING, at("a", 7, -9), at("b", 7 + dx, -9 + dy), 1), told)

    def test_all_cells_of_each(self):
        one = [(0, 0, "a"), (5, 5, "a")]
        for x, y, told in (
            (8, 8, ("x", False)), (7, 8, ("y", False)), (8, 7, ("x", False)), (7, 7, None), (-3, 2, ("x", True)), (-2, 2, None),
            (2, -3, ("y", True)), (2, 2, None),
        ):
            self.assertEqual(clear_of(STAYING, one, at("b", x, y), 5), told)
            self.assertEqual(clear_of(STAYING, at("b", x, y), one, 5), told and (told[0], not told[1]))

    def test_as_far_on_farther_and_less_far(self):
        for ahead, behind, told in (
            ("a", "a", True), ("a", "b", True), ("a", "e", True), ("e", "b", True), ("b", "b", True), ("e", "e", True),
            ("b", "a", False), ("e", "a", False), ("b", "e", False), ("a", "h", True), ("h", "a", False), ("h", "h", True), ("e", "h", False),
            ("h", "e", True), ("h", "b", True), ("b", "h", False),
        ):
            one, other = at(ahead, 9, 0), at(behind, 0, 0)
            self.assertEqual(clear_of(GOING, one, other, 60), ("x", True) if told else None, (ahead, behind))
            self.assertEqual(clear_of(GOING, other, one, 60), ("x", False) if told else None, (ahead, behind))
        for ahead, behind, told in (("c", "c", True), ("c", "d", True), ("d", "c", False), ("e", "c", False), ("c", "e", True), ("d", "d", True), ("e", "d", True)):
            one, other = at(ahead, 0, 9), at(behind, 0, 0)
            self.assertEqual(clear_of(GOING, one, other, 60), ("y", True) if told else None)
            self.assertEqual(clear_of(GOING, other, one, 60), ("y", False) if told else None)

    def test_by_y_where_x_is_not_right(self):
        # On x the hind one comes on; on y they keep apart.
        self.assertEqual(clear_of(GOING, at("e", 9, 9), at("a", 0, 0), 60), ("y", True))
        self.assertEqual(clear_of(GOING, at("e", 9, -9), at("a", 0, 0), 60), ("y", False))
        self.assertEqual(clear_of(GOING, at("b", 9, 9), at("c", 0, 0), 60), None)
        self.assertEqual(clear_of(GOING, at("d", -9, 9), at("c", 0, 0), 60), ("x", False))
        self.assertEqual(clear_of(GOING, at("a", 9, 9), at("b", 0, 0), 60), ("x", True))

    def test_behind_each_turn(self):
        # The hind one comes near on the way, though behind both turns all is as far as it was.
        rule = read_rule("around 4 w e\n. w=a e=. -> b\na -> a\nb -> .\nab w=c -> .\n. w=b -> .")
        parts = ("around", 4, rule.near(), rule.rows())
        seen = []
        for gap in range(2, 7):
            one, other = at("c", gap, 0), [(0, 0, "a")]
            told = clear_of(rule, one, other, 60)
            self.assertEqual(told, model_clear(parts, one, other, 60))
            seen.append(told)
        self.assertIn(None, seen)
        self.assertIn(("x", True), seen)
        for gap in range(2, 6):
            told = clear_of(LIFE, SQUARE, moved(BLINKER, 0, -gap), 60)
            self.assertEqual(told, model_clear(("around", 2, LIFE.near(), LIFE.rows()), SQUARE, moved(BLINKER, 0, -gap), 60))
            self.assertEqual(told, ("y", True) if gap >= 4 else None)
            told = clear_of(LIFE, moved(BLINKER, -gap, 0), SQUARE, 60)
            self.assertEqual(told, ("x", False) if gap >= 4 else None)

    def test_up_to_which_turns(self):
        for many, other, both in ((4, 22, 44), (6, 20, 60), (10, 16, 80), (13, 13, 13), (5, 21, 105), (1, 25, 25), (2, 24, 24)):
            rule = hands("a", many)
            one, two = at("a", 0, 0), at("abcdefghijklmnopqrstuvwxyz"[many], 5, 0)
            self.assertEqual((paper_of(rule, one, 40)[1], paper_of(rule, two, 40)[1]), (many, other))
            for most in {1, 13, 21, 22, 25, 40, 59, 60, both - 1, both, max(many, other)}:
                if 1 <= most <= 60:
                    told = ("x", False) if both <= most else None
                    self.assertEqual(clear_of(rule, one, two, most), told, (many, most))
                    self.assertEqual(clear_of(rule, two, one, most), told and ("x", True))

    def test_papers_of_at_most_40_turns(self):
        rows = "\n".join(f"{one} -> {other}" for one, other in zip("abcdefghijklmnopqrst", "bcdefghijklmnopqrsta"))
        for many, rest in ((40, ""), (42, "u")):
            rows = "\n".join(f"{one} -> {other}" for one, other in zip("abcdefghijklmnopqrst" + rest, "bcdefghijklmnopqrst" + rest + "a"))
            rule = read_rule(f"halves 27\n{rows}")
            self.assertEqual(model_paper(("halves", 27, (), rule.rows()), at("a", 0, 0), 60), ("turning", many, 0, 0))
            for most in (39, 40, 42, 50, 60):
                told = ("x", True) if many == 40 <= most else None
                self.assertEqual(clear_of(rule, at("a", 4, 0), at("a", 0, 0), most), told, (many, most))
                self.assertEqual(clear_of(rule, at("z", 4, 0), at("a", 0, 0), most), told)
                self.assertEqual(clear_of(rule, at("a", 4, 0), at("z", 0, 0), most), told)

    def test_none_without_a_paper(self):
        for one, other in (([], at("a", 0, 0)), (at("a", 0, 0), []), ([], []), (SQUARE, at("a", 9, 9)), (at("a", 9, 9), SQUARE)):
            self.assertIsNone(clear_of(LIFE, one, other, 60))
        self.assertIsNone(clear_of(LIFE, GLIDER, moved(SQUARE, -9, 0), 3))
        self.assertEqual(clear_of(LIFE, GLIDER, moved(SQUARE, -9, 0), 4), ("x", True))
        self.assertIsNone(clear_of(LIFE, GLIDER, moved(SQUARE, 9, 0), 60))

    def test_by_the_model(self):
        by = chance(90)
        told = {}
        for _ in range(500):
            signs = by.choice(("abcde", "aabbeh", "fghi"))
            sign, second = by.choice(signs), by.choice(signs)
            spots = {(by.randint(0, 2) * 3, by.randint(0, 2) * 3) for _ in range(by.randint(1, 2))}
            one = sorted((x, y, sign) for x, y in spots)
            other = at(second, by.choice((-12, -9, -3, 0, 4, 9)), by.choice((-9, -3, 0, 2, 9)))
            most = by.choice((1, 2, 4, 12, 60))
            parts = ("around", 10, GOING.near(), GOING.rows())
            known = model_clear(parts, one, other, most)
            self.assertEqual(clear_of(GOING, one, other, most), known)
            told[known] = told.get(known, 0) + 1
        self.assertEqual(sorted(map(str, told)), sorted(map(str, [None, ("x", True), ("x", False), ("y", True), ("y", False)])))
        self.assertGreater(min(told.values()), 10)

    def test_by_the_model_of_halves_and_blocks(self):
        flying = read_rule("blocks 3\na . . . -> ...a\n. . . a -> a...\nb . . . -> .b..\n. b . . -> ...b\n. . . b -> ..b.\n. . b . -> b...")
        pairs = read_rule("halves 3 w e\n. w=a e=. -> a\na w=. e=a -> .")
        by = chance(91)
        for rule, lists in (
            (flying, [[(0, 0, "a")], [(1, 1, "a")], [(0, 0, "b")], [(1, 0, "a")]]),
            (pairs, [[(0, 0, "a"), (1, 0, "a")], [(0, 0, "b")], [(0, 0, "b"), (4, 4, "b")]]),
        ):
            parts = (rule.kind(), 3, rule.near(), rule.rows())
            for _ in range(150):
                one, other = by.choice(lists), moved(by.choice(lists), 2 * by.randint(-5, 5), 2 * by.randint(-5, 5))
                most = by.choice((1, 2, 4, 9))
                self.assertEqual(clear_of(rule, one, other, most), model_clear(parts, one, other, most))

    def test_as_if_alone(self):
        # [6]: laid together and run on, what is clear is as if alone, many times both turns.
        by = chance(92)
        for rule, lists in (
            (LIFE, [GLIDER, SQUARE, BLINKER, moved([(x, 2 - y, "a") for x, y, _ in GLIDER], 0, 0), moved([(2 - x, y, "a") for x, y, _ in GLIDER], 0, 0)]),
            (GOING, [at(sign, 0, 0) for sign in "abcdefh"]),
        ):
            seen = 0
            for _ in range(150):
                one, other = by.choice(lists), moved(by.choice(lists), by.randint(-9, 9), by.randint(-9, 9))
                if clear_of(rule, one, other, 60) is None:
                    continue
                seen += 1
                papers = [paper_of(rule, cells, 40) for cells in (one, other)]
                for turn in (1, 2, 4, 7, 40):
                    alone = [where_at(rule, cells, paper, turn) for cells, paper in zip((one, other), papers)]
                    self.assertEqual(run(rule, endless(one + other), turn).cells(), sorted(alone[0] + alone[1]))
            self.assertGreater(seen, 40)


class NothingIsChanged(Told):
    def test_cells_are_as_they_were(self):
        one, other = list(GLIDER), moved(SQUARE, -9, 0)
        known = list(one), list(other)
        for _ in range(2):
            told = clear_of(LIFE, one, other, 60)
            self.assertEqual((one, other, told), (*known, ("x", True)))
            self.assertIs(type(told), tuple)
            self.assertIs(told[1], True)

    def test_all_is_defined_in_the_file(self):
        self.assertEqual(clear.clear_of.__module__, "cellscript.clear")


if __name__ == "__main__":
    unittest.main()
