"""[2], [12]: the kinds, told of whatever is handed in."""

import unittest

from cellscript import kinds
from tests.support import FAR, LATE, SIGNS, Told, is_number, shown, whatever

ASKED = ("is_whole", "is_sign", "is_signs", "is_spot", "is_turn", "is_word", "is_place")
NUMBERS = [
    0, 1, -1, 2, 26, 27, 28, FAR - 1, FAR, FAR + 1, -FAR + 1, -FAR, -FAR - 1, LATE - 1, LATE, LATE + 1, -LATE,
    10 ** 30, -(10 ** 30), 10 ** 5000, -(10 ** 5000),
]


class Kinds(Told):
    def told(self, ask, yes, no):
        """Just the things of yes, none of no, are such; the answer is True or False itself."""
        for thing in yes:
            self.assertIs(ask(thing), True, shown(thing))
        for thing in no:
            self.assertIs(ask(thing), False, shown(thing))

    def but(self, *right):
        """All things but these."""
        return [thing for thing in whatever() if not any(type(thing) is type(one) and thing == one for one in right)]

    def test_numbers(self):
        others = [thing for thing in whatever() if type(thing) is not int]
        self.told(kinds.is_whole, NUMBERS, others)
        self.told(kinds.is_whole, [thing for thing in whatever() if type(thing) is int], ["0", "1", [0], (0,), {0: 0}])

    def test_truths_are_no_numbers(self):
        for ask in (kinds.is_whole, kinds.is_spot, kinds.is_turn):
            self.told(ask, [0, 1], [True, False])

    def test_spots(self):
        yes = [number for number in NUMBERS if -(10 ** 6) <= number <= 10 ** 6]
        self.assertEqual(len(yes), 11)
        self.told(kinds.is_spot, yes, [number for number in NUMBERS if number not in yes])
        self.told(kinds.is_spot, [], [thing for thing in whatever() if not is_number(thing, -FAR, FAR)])

    def test_turns(self):
        yes = [number for number in NUMBERS if 0 <= number <= 10 ** 9]
        self.assertEqual(len(yes), 11)
        self.told(kinds.is_turn, yes, [number for number in NUMBERS if number not in yes])
        self.told(kinds.is_turn, [], [thing for thing in whatever() if not is_number(thing, 0, LATE)])

    def test_signs(self):
        beside = [chr(code) for code in range(1200) if chr(code) not in SIGNS]
        self.told(kinds.is_sign, list(SIGNS), beside)
        self.told(kinds.is_sign, [], ["", "..", "ab", "aa", ".a", "a ", SIGNS, ["a"], ("a",), b"a", {"a": 1}])
        self.told(kinds.is_sign, [], self.but(".", "a", "n"))

    def test_rows_of_signs(self):
        yes = [*SIGNS, SIGNS, SIGNS[1:], ".a", "ab", "az", ".z", "abc", ".bz", "acegikmoqsuwy"]
        no = ["", "aa", "..", "ba", "a.", "aab", "abb", "acb", "bac", "abcb", "abca", SIGNS + "z", SIGNS[::-1], "." + SIGNS]
        no += ["a_", "_a", "aB", "Ab", "a b", " a", "a ", "ab\n", "a{", "`a", "/a", "-.", "a\u00e9", "0a"]
        self.told(kinds.is_signs, yes, no)
        self.told(kinds.is_signs, [], [["a"], ("a", "b"), b"ab", {"a": "b"}, list(SIGNS), None])
        self.told(kinds.is_signs, [], self.but(".", "a", "ab", "n"))

    def test_words(self):
        yes = ["a", "z", "ab", "zz", "aaaaaaaa", "hgfedcba", "none", "abcdefgh", "zyxwvuts"]
        self.told(kinds.is_word, yes + list(SIGNS[1:]), ["", ".", "abcdefghi", "a" * 9, "a" * 10, "a.b", ".a", "a.", "A"])
        self.told(kinds.is_word, [], ["aB", "a1", "a b", " a", "a ", "a\n", "a_", "a-b", "\u00e9", "\u00df", "a{", "`"])
        self.told(kinds.is_word, [], [["a"], ("a",), b"a", {"a": 1}, None, 1])
        self.told(kinds.is_word, ["hgfedcbz"[:long] for long in range(1, 9)], ["hgfedcbazy"[:long] for long in (0, 9, 10)])
        self.told(kinds.is_word, [], self.but("a", "ab", "ba", "n", "around"))

    def test_places(self):
        yes = ["n", "ne", "e", "se", "s", "sw", "w", "nw"]
        no = ["", "a", "nn", "en", "es", "ws", "wn", "ns", "we", "N", "NE", "nen", "nne", "n ", " n", "n\n", ".", "north"]
        self.told(kinds.is_place, yes, no)
        self.told(kinds.is_place, [], [["n"], ("n",), b"n", {"n": 1}, (0, -1), None, 0])
        self.told(kinds.is_place, [], self.but("n"))

    def test_what_is_asked_is_as_it_was(self):
        things = [["a"], {"a": ["b"]}, [[1], (2,)]]
        for name in ASKED:
            for thing in things:
                getattr(kinds, name)(thing)
        self.assertEqual(things, [["a"], {"a": ["b"]}, [[1], (2,)]])

    def test_all_are_defined_in_the_file(self):
        for name in ASKED:
            self.assertEqual(getattr(kinds, name).__module__, "cellscript.kinds")


if __name__ == "__main__":
    unittest.main()
