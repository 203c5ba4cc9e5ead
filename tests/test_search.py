"""[65], and of [3] and [4] what is its: all pictures of a size that have a paper."""

import unittest
from itertools import product

from cellscript import search as searched
from cellscript.errors import Restless, TooMany
from cellscript.rules import Rule
from cellscript.ruletexts import read_rule
from cellscript.search import search
from tests.model_patterns import model_paper
from tests.support import SIGNS, SORTS, Told, cells_of, chance, some_parts

ALL = "n ne e se s sw w nw"
LIFE = read_rule(f"around 2 {ALL}\n. 3-3=a -> a\na 2-3=a -> a\na -> .")
FLYING = read_rule("blocks 2\na . . . -> ...a\n. . . a -> a...")
PAIRS = read_rule("halves 2 w e\n. w=a e=. -> a\na w=. e=a -> .")
GOING = read_rule("around 3 w n\n. w=a -> a\n. n=b -> b\nab -> .")
BLINKING = read_rule("around 2\n. -> a\na -> .")


def model_search(parts, wide, high, most):
    """All pictures that have a paper, looked for one by one."""
    told = []
    for signs in product(SIGNS[:parts[1]], repeat=wide * high):
        rows = tuple("".join(signs[at:at + wide]) for at in range(0, wide * high, wide))
        if set(rows[0]) == {"."} or {row[0] for row in rows} == {"."}:
            continue
        paper = model_paper(parts, cells_of(rows), most)
        if paper is not None:
            told.append((rows, paper))
    return told


class Sought(Told):
    def due(self, rule, wide, high, most):
        told = search(rule, wide, high, most)
        self.assertEqual(told, model_search((rule.kind(), rule.many(), rule.near(), rule.rows()), wide, high, most))
        return told

    def test_to_the_letter(self):
        self.assertEqual(search(LIFE, 2, 2, 12), [(("aa", "aa"), ("still", 1, 0, 0))])
        self.assertEqual(search(LIFE, 3, 1, 12), [(("aaa",), ("turning", 2, 0, 0))])
        self.assertEqual(search(LIFE, 1, 3, 12), [(("a", "a", "a"), ("turning", 2, 0, 0))])
        self.assertEqual(search(LIFE, 1, 3, 1), [])
        self.assertEqual(search(LIFE, 1, 1, 12), [])
        self.assertEqual(search(read_rule("around 3"), 1, 1, 1), [(("a",), ("still", 1, 0, 0)), (("b",), ("still", 1, 0, 0))])
        self.assertEqual(search(FLYING, 1, 1, 12), [(("a",), ("moving", 1, 1, 1))])
        self.assertEqual(search(PAIRS, 2, 1, 12), [(("aa",), ("moving", 1, 1, 0))])
        self.assertEqual(search(GOING, 2, 1, 12), [(("a.",), ("moving", 1, 1, 0)), (("b.",), ("moving", 1, 0, 1)), (("bb",), ("moving", 1, 0, 1))])

    def test_the_order_and_what_begins(self):
        stays = read_rule("around 2")
        rows = [rows for rows, _ in search(stays, 2, 2, 1)]
        self.assertEqual(rows, [(".a", "a."), (".a", "aa"), ("a.", ".."), ("a.", ".a"), ("a.", "a."), ("a.", "aa"),
                                ("aa", ".."), ("aa", ".a"), ("aa", "a."), ("aa", "aa")])
        for rule in (stays, read_rule("around 3"), read_rule("halves 3 n"), read_rule("blocks 2")):
            for wide, high in ((1, 2), (2, 1), (2, 2), (1, 4), (4, 1)):
                if rule.many() ** (wide * high) <= 256:
                    rows = [rows for rows, _ in search(rule, wide, high, 2)]
                    self.assertEqual(rows, sorted(rows))
                    known = [
                        picture for picture in product(map("".join, product(rule.signs(), repeat=wide)), repeat=high)
                        if picture[0].strip(".") and any(row[0] != "." for row in picture)
                    ]
                    self.assertEqual(rows, sorted(known))

    def test_one_by_one(self):
        found = 0
        for rule in (LIFE, LIFE.turned(5), FLYING, FLYING.turned(1), PAIRS, PAIRS.turned(3)):
            for wide, high in ((1, 1), (2, 2), (4, 2), (2, 4), (3, 2), (1, 4), (4, 1)):
                for most in (1, 2, 4, 12) if wide * high < 8 else (12,):
                    found += len(self.due(rule, wide, high, most))
        self.assertGreater(found, 200)

    def test_by_chance(self):
        by = chance(100)
        for sort in SORTS:
            for many, sizes in ((2, ((2, 2), (3, 2), (2, 3), (4, 1))), (3, ((2, 2), (1, 4), (5, 1), (2, 1))), (4, ((2, 2), (1, 4), (4, 1))), (16, ((2, 1), (1, 2)))):
                for _ in range(3):
                    wide, high = by.choice([size for size in sizes if max(size) <= 4])
                    self.due(Rule(*some_parts(by, sort, many, keeps=True)), wide, high, by.choice((1, 2, 5, 12)))

    def test_what_is_told(self):
        told = search(LIFE, 2, 2, 12)
        self.assertIs(type(told), list)
        rows, paper = told[0]
        self.assertEqual([type(told[0]), type(rows), type(rows[0]), type(paper)], [tuple, tuple, str, tuple])
        told.clear()
        self.assertEqual(len(search(LIFE, 2, 2, 12)), 1)


class Refused(Told):
    def test_restless(self):
        for rule in (BLINKING, read_rule("halves 2\n. -> a"), read_rule("blocks 2\n. . . . -> a...")):
            self.refused(Restless, {}, search, rule, 1, 1, 1)
            self.refused(Restless, {}, search, rule, 4, 4, 12)

    def test_just_more_than_256(self):
        for many in range(2, 28):
            rule = read_rule(f"blocks {many}")
            for wide in range(1, 5):
                for high in range(1, 5):
                    if many ** (wide * high) > 256:
                        self.refused(TooMany, {"most": 256}, search, rule, wide, high, 1)
                    else:
                        search(rule, wide, high, 1)
        self.assertEqual(len(search(read_rule("around 2"), 4, 2, 1)), 256 - 16 - 64 + 8)
        self.assertEqual(len(search(read_rule("around 16"), 2, 1, 1)), 240)
        self.assertEqual(len(search(read_rule("around 27"), 1, 1, 1)), 26)

    def test_all_is_defined_in_the_file(self):
        self.assertEqual(searched.search.__module__, "cellscript.search")


if __name__ == "__main__":
    unittest.main()
