"""[13] to [16], and of [3] and [4] what is theirs: pictures and pieces."""

import unittest
from copy import deepcopy

from cellscript import pictures
from cellscript.pictures import (
    back_of, is_picture, is_piece, read_piece, show_piece, spots_of, then, trimmed, turned,
)
from tests.support import (
    FAR, SIGNS, WAYS, Told, chance, model_turned, no_pictures, no_pieces, no_spots, no_ways, shown, some_picture, whatever,
)

ALL_SIGNS = [SIGNS]
RAGGED = ["abc_", ".de."]
TURNED = {
    0: ["abc", "def"], 1: ["da", "eb", "fc"], 2: ["fed", "cba"], 3: ["cf", "be", "ad"],
    4: ["cba", "fed"], 5: ["fc", "eb", "da"], 6: ["def", "abc"], 7: ["ad", "be", "cf"],
}


def some_pieces():
    by = chance(1)
    sizes = [(1, 1), (1, 5), (5, 1), (2, 2), (3, 2), (2, 3), (4, 7), (32, 32), (32, 1), (1, 32), (31, 2)]
    return [["".join(by.choice("..abz_") for _ in range(wide)) for _ in range(high)] for wide, high in sizes]


class WhatTheyAre(Told):
    def test_sizes(self):
        for high in range(35):
            for wide in range(35):
                right = 1 <= wide <= 32 and 1 <= high <= 32
                self.assertIs(is_picture(["a" * wide] * high), right, (wide, high))
                self.assertIs(is_piece(["_" * wide] * high), right, (wide, high))

    def test_signs(self):
        for code in range(1200):
            sign = chr(code)
            self.assertIs(is_picture([sign]), sign in SIGNS, shown(sign))
            self.assertIs(is_piece([sign]), sign in SIGNS + "_", shown(sign))
            self.assertIs(is_picture(["ab", "." + sign]), sign in SIGNS, shown(sign))
            self.assertIs(is_piece(["a" + sign, "_."]), sign in SIGNS + "_", shown(sign))

    def test_left_alone_in_pieces_only(self):
        for piece in (["_"], ["a_", "ab"], ["ab", "_b"], ["__", "__"]):
            self.assertIs(is_piece(piece), True)
            self.assertIs(is_picture(piece), False)

    def test_whatever(self):
        for thing in no_pieces():
            self.assertIs(is_piece(thing), False, shown(thing))
        for thing in no_pictures():
            self.assertIs(is_picture(thing), False, shown(thing))
        for thing in (ALL_SIGNS, ["a"], [".."], ["ab", "cd"]):
            self.assertIs(is_piece(thing), True)
            self.assertIs(is_picture(thing), True)


class Ways(Told):
    def test_all_eight_ways(self):
        for way, rows in TURNED.items():
            self.assertEqual(turned(["abc", "def"], way), rows, way)

    def test_turned_as_told(self):
        for piece in some_pieces():
            for way in WAYS:
                self.assertEqual(turned(piece, way), model_turned(piece, way))

    def test_left_alone_is_turned_as_signs_are(self):
        self.assertEqual(turned(RAGGED, 1), [".a", "db", "ec", "._"])
        self.assertEqual(turned(RAGGED, 4), ["_cba", ".ed."])

    def test_then(self):
        piece = ["abc", "def"]
        for one in WAYS:
            for other in WAYS:
                told = then(one, other)
                self.assertIs(type(told), int)
                self.assertEqual(turned(piece, told), turned(turned(piece, one), other), (one, other))
                self.assertEqual(TURNED[told], model_turned(TURNED[one], other))

    def test_then_to_the_letter(self):
        self.assertEqual([then(1, way) for way in WAYS], [1, 2, 3, 0, 7, 4, 5, 6])
        self.assertEqual([then(4, way) for way in WAYS], [4, 5, 6, 7, 0, 1, 2, 3])
        self.assertEqual([then(5, way) for way in WAYS], [5, 6, 7, 4, 3, 0, 1, 2])

    def test_back(self):
        self.assertEqual([back_of(way) for way in WAYS], [0, 3, 2, 1, 4, 5, 6, 7])
        for piece in some_pieces():
            for way in WAYS:
                self.assertEqual(turned(turned(piece, way), back_of(way)), piece)

    def test_refused(self):
        self.refused_wrong(turned, [["ab"], 3], [no_pieces(), no_ways()])
        self.refused_wrong(then, [1, 2], [no_ways(), no_ways()])
        self.refused_wrong(back_of, [1], [no_ways()])


class Spots(Told):
    def test_by_rows_from_the_left(self):
        told = spots_of(["a.", "_b"], 5, -3)
        self.assertEqual(told, [(5, -3, "a"), (6, -3, "."), (6, -2, "b")])

    def test_none_where_all_is_left_alone(self):
        self.assertEqual(spots_of(["__", "__"], 0, 0), [])

    def test_of_many_pieces(self):
        for piece in some_pieces():
            for x, y in ((0, 0), (-7, 12), (FAR, FAR), (-FAR, -FAR), (FAR, -FAR)):
                expected = []
                for down in range(len(piece)):
                    for right in range(len(piece[0])):
                        if piece[down][right] != "_":
                            expected.append((x + right, y + down, piece[down][right]))
                self.assertEqual(spots_of(piece, x, y), expected)

    def test_at_the_farthest_spots(self):
        self.assertEqual(spots_of(["ab"], FAR, FAR), [(FAR, FAR, "a"), (FAR + 1, FAR, "b")])
        self.assertEqual(spots_of(["ab"], -FAR, -FAR), [(-FAR, -FAR, "a"), (1 - FAR, -FAR, "b")])

    def test_refused(self):
        self.refused_wrong(spots_of, [["ab"], 0, 0], [no_pieces(), no_spots(), no_spots()])


class Trimmed(Told):
    def test_examples(self):
        self.assertEqual(trimmed(["a"]), (0, 0, ["a"]))
        self.assertEqual(trimmed(["...", ".a.", "..."]), (1, 1, ["a"]))
        self.assertEqual(trimmed(["....", "..a.", ".b..", "...."]), (1, 1, [".a", "b."]))
        self.assertEqual(trimmed(["a..", "...", "..a"]), (0, 0, ["a..", "...", "..a"]))
        self.assertEqual(trimmed([".a", ".."]), (1, 0, ["a"]))
        self.assertEqual(trimmed(["..", "a."]), (0, 1, ["a"]))
        self.assertEqual(trimmed(["..a.b.."]), (2, 0, ["a.b"]))

    def test_ground_alone(self):
        for wide, high in ((1, 1), (3, 2), (32, 32)):
            self.assertIsNone(trimmed(["." * wide] * high))

    def test_what_is_left_stands_where_it_stood(self):
        by = chance(2)
        for _ in range(300):
            self.look(some_picture(by, 2, by.randint(1, 6), by.randint(1, 6)))

    def test_what_is_left_of_sparse_ones(self):
        by = chance(3)
        for _ in range(300):
            wide, high = by.randint(1, 7), by.randint(1, 7)
            self.look(["".join(by.choice("........a") for _ in range(wide)) for _ in range(high)])

    def look(self, picture):
        spots = [(x, y) for y, row in enumerate(picture) for x, sign in enumerate(row) if sign != "."]
        if spots == []:
            self.assertIsNone(trimmed(picture))
            return
        left, right = min(x for x, _ in spots), max(x for x, _ in spots)
        top, bottom = min(y for _, y in spots), max(y for _, y in spots)
        rows = [row[left:right + 1] for row in picture[top:bottom + 1]]
        self.assertEqual(trimmed(picture), (left, top, rows))

    def test_refused(self):
        self.refused_wrong(trimmed, [["ab"]], [no_pictures()])


class Texts(Told):
    def test_examples(self):
        self.assertEqual(show_piece(["ab", "_."]), "ab/_.")
        self.assertEqual(show_piece(["a"]), "a")
        self.assertEqual(read_piece("ab/_."), ["ab", "_."])
        self.assertEqual(read_piece("a"), ["a"])
        self.assertEqual(read_piece("a/b/."), ["a", "b", "."])

    def test_there_and_back(self):
        for piece in some_pieces() + [ALL_SIGNS]:
            text = "/".join(piece)
            self.assertEqual(show_piece(piece), text)
            self.assertEqual(read_piece(text), piece)

    def test_no_text(self):
        for thing in whatever():
            if type(thing) is not str or thing not in (".", "a", "_", "ab", "ba", "a/b", "n", "around"):
                self.refused_text(read_piece, thing)
        for text in (
            "/", "a/", "/a", "a//b", "ab/a", "a/ab", "A", "a b", "a/b ", " a", "a\n", "a\nb", "a\\b", "a-b", "a/B", "a/b/",
            "a" * 33, "/".join(["a"] * 33), "ab/cd/e", "a,b", "['a']",
        ):
            self.refused_text(read_piece, text)
        for thing in (["a"], ["a", "b"], ("a",), b"a", {"a": "a"}):
            self.refused_text(read_piece, thing)

    def test_the_largest(self):
        largest = ["a" * 32] * 32
        self.assertEqual(read_piece(show_piece(largest)), largest)

    def test_refused(self):
        self.refused_wrong(show_piece, [["ab"]], [no_pieces()])


class NothingIsChanged(Told):
    def test_what_was_handed_in_is_as_it_was(self):
        for piece in ([".ab_", "...."], ["...", ".a.", "..."]):
            known = deepcopy(piece)
            for way in WAYS:
                turned(piece, way)
            spots_of(piece, 1, 2)
            show_piece(piece)
            is_piece(piece)
            if is_picture(piece):
                trimmed(piece)
            self.assertEqual(piece, known)

    def test_what_is_told_is_new(self):
        for way in WAYS:
            piece = ["ab", "cd"]
            told = turned(piece, way)
            self.assertIsNot(told, piece)
            told[0] = "zz"
            self.assertEqual(piece, ["ab", "cd"])
            self.assertEqual(turned(piece, way), model_turned(piece, way))
        picture = ["ab", "cd"]
        told = trimmed(picture)[2]
        told.append("zz")
        told[0] = "zz"
        self.assertEqual(picture, ["ab", "cd"])
        self.assertEqual(trimmed(picture), (0, 0, ["ab", "cd"]))

    def test_what_is_told_again_is_new(self):
        spots = spots_of(["ab"], 0, 0)
        spots.clear()
        self.assertEqual(spots_of(["ab"], 0, 0), [(0, 0, "a"), (1, 0, "b")])
        rows = read_piece("ab/cd")
        rows.clear()
        self.assertEqual(read_piece("ab/cd"), ["ab", "cd"])

    def test_what_is_changed_behind_a_call_changes_nothing(self):
        piece = ["ab", "cd"]
        told = [turned(piece, 0), trimmed(piece), spots_of(piece, 0, 0)]
        known = deepcopy(told)
        piece[0] = "zz"
        piece.append("yy")
        self.assertEqual(told, known)

    def test_all_are_defined_in_the_file(self):
        for name in ("is_picture", "is_piece", "turned", "then", "back_of", "spots_of", "trimmed", "show_piece", "read_piece"):
            self.assertEqual(getattr(pictures, name).__module__, "cellscript.pictures")


if __name__ == "__main__":
    unittest.main()
