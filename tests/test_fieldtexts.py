"""[33]: texts of fields."""

import re
import unittest

from cellscript.fields import box, endless, torus
from cellscript.fieldtexts import read_field, show_field
from tests.support import FAR, LATE, SIGNS, Told, cells_of, chance, misspelled, some_picture, told_of, whatever

MOST = 10 ** 10 - 1
TURN = "(0|[1-9][0-9]{0,9})"
SPOT = "(0|-?[1-9][0-9]{0,9})"
SHAPES = (
    re.compile(f"endless {TURN}"), re.compile(f"endless {TURN} {SPOT} {SPOT} ([.a-z/]+)"), re.compile(f"torus {TURN} ([.a-z/]+)"),
    re.compile(f"box {TURN} [.a-z] ([.a-z/]+)"),
)


def is_field_text(text):
    """Whether a text is that of a field, told otherwise than the program does."""
    found = [shape.fullmatch(text) for shape in SHAPES]
    if found[0]:
        return True
    fits = [one for one in found if one]
    if not fits:
        return False
    rows = fits[0].groups()[-1].split("/")
    most = 200 if found[1] else 32
    if not 1 <= len(rows) <= most or not 1 <= len(rows[0]) <= most or any(len(row) != len(rows[0]) for row in rows):
        return False
    sides = [rows[0], rows[-1], "".join(row[0] for row in rows), "".join(row[-1] for row in rows)]
    return not found[1] or all(set(side) != {"."} for side in sides)


def model_text(field):
    """The text of a field, by what it tells of itself."""
    text = f"{field.kind()} {field.turn()}"
    if field.kind() == "box":
        text += " " + field.edge()
    if field.kind() == "endless":
        if field.frame() is None:
            return text
        left, top, right, bottom = field.frame()
        text += f" {left} {top}"
    else:
        left, top, right, bottom = 0, 0, field.wide() - 1, field.high() - 1
    signs = {(x, y): sign for x, y, sign in field.cells()}
    rows = ["".join(signs.get((x, y), ".") for x in range(left, right + 1)) for y in range(top, bottom + 1)]
    return text + " " + "/".join(rows)


def some_fields():
    by = chance(16)
    made = [endless([]), endless([], turn=LATE), torus(["."]), torus(["a"]), box(["."], "."), box(["a"], "z", turn=10)]
    for _ in range(40):
        wide, high, turn = by.randint(1, 8), by.randint(1, 8), by.choice((0, 1, 9, 10, 99, 12345, LATE))
        picture = ["".join(by.choice("....abz") for _ in range(wide)) for _ in range(high)]
        left, top = by.choice((-FAR, -10, -1, 0, 1, 12, FAR - 9)), by.choice((-FAR, -10, -1, 0, 1, 12, FAR - 9))
        made += [endless(cells_of(picture, left, top), turn=turn), torus(picture, turn=turn), box(picture, by.choice(SIGNS), turn=turn)]
    made += [torus(some_picture(by, 27, 32, 32)), box(some_picture(by, 27, 32, 32), "q"), torus([SIGNS])]
    return made


class Shown(Told):
    def test_examples(self):
        self.assertEqual(show_field(endless([])), "endless 0")
        self.assertEqual(show_field(endless([], turn=12)), "endless 12")
        self.assertEqual(show_field(endless([(-1, 2, "a"), (1, 3, "b")], turn=12)), "endless 12 -1 2 a../..b")
        self.assertEqual(show_field(endless([(0, 0, "a")])), "endless 0 0 0 a")
        self.assertEqual(show_field(torus(["...", ".a."], turn=7)), "torus 7 .../.a.")
        self.assertEqual(show_field(box(["...", ".a."], ".", turn=7)), "box 7 . .../.a.")
        self.assertEqual(show_field(box(["b"], "c")), "box 0 c b")

    def test_there_and_back(self):
        for field in some_fields():
            text = show_field(field)
            self.assertEqual(text, model_text(field))
            self.assertTrue(is_field_text(text))
            self.assertEqual(read_field(text), field)
            self.assertEqual(told_of(read_field(text)), told_of(field))

    def test_read(self):
        self.assertEqual(read_field("endless 12 -1 2 a../..b"), endless([(-1, 2, "a"), (1, 3, "b")], turn=12))
        self.assertEqual(read_field("torus 7 .../.a."), torus(["...", ".a."], turn=7))
        self.assertEqual(read_field("box 7 . .../.a."), box(["...", ".a."], ".", turn=7))
        self.assertEqual(read_field("endless 0"), endless([]))
        self.assertEqual(read_field("torus 0 ./."), torus([".", "."]))
        self.assertEqual(read_field("endless 0 0 0 .a./a.a/.a."), endless([(1, 0, "a"), (0, 1, "a"), (2, 1, "a"), (1, 2, "a")]))

    def test_ten_figures(self):
        field = read_field(f"endless {MOST} -{MOST} {MOST} a.b")
        self.assertEqual((field.turn(), field.cells()), (MOST, [(-MOST, MOST, "a"), (-MOST + 2, MOST, "b")]))
        self.assertEqual(show_field(field), f"endless {MOST} -{MOST} {MOST} a.b")
        self.assertEqual(read_field(f"torus {MOST} a").turn(), MOST)
        self.assertEqual(read_field(f"box {MOST} a b").turn(), MOST)
        self.assertEqual(read_field(f"endless {MOST}").turn(), MOST)
        self.assertEqual(read_field("endless 1000000000 1000001 -1000001 a").frame(), (1000001, -1000001, 1000001, -1000001))
        for text in (
            f"endless {MOST + 1}", f"endless 0 {MOST + 1} 0 a", f"endless 0 0 {MOST + 1} a", f"endless 0 -{MOST + 1} 0 a",
            f"endless 0 0 -{MOST + 1} a", f"torus {MOST + 1} a", f"box {MOST + 1} a a", "endless " + "1" * 10000,
            "torus " + "1" * 5000 + " a", "endless 0 -" + "1" * 5000 + " 0 a",
        ):
            self.refused_text(read_field, text)

    def test_fields_beyond_the_farthest_spots_and_turns(self):
        field = endless([(FAR, -FAR, "a")], turn=LATE).moved(FAR, -FAR).moved(5, 5)
        self.assertEqual(show_field(field), "endless 1000000000 2000005 -1999995 a")
        self.assertEqual(read_field(show_field(field)), field)

    def test_200_wide_and_high(self):
        wide, high = "a" * 200, "/".join(["a"] * 200)
        square = "/".join(["a" + "." * 199] * 199 + ["." * 199 + "b"])
        for text in (wide, high, square):
            field = read_field("endless 5 -3 4 " + text)
            self.assertEqual(show_field(field), "endless 5 -3 4 " + text)
        self.assertEqual(read_field("endless 5 -3 4 " + square).frame(), (-3, 4, 196, 203))
        for text in ("a" * 201, "/".join(["a"] * 201), "a" * 300, "/".join(["a" * 201] * 201), "a" + "." * 199 + "a"):
            self.refused_text(read_field, "endless 5 -3 4 " + text)

    def test_32_wide_and_high(self):
        for head in ("torus 0 ", "box 0 a "):
            for wide, high in ((32, 1), (1, 32), (32, 32), (33, 1), (1, 33), (200, 1), (33, 33)):
                text = head + "/".join(["." * wide] * high)
                if wide > 32 or high > 32:
                    self.refused_text(read_field, text)
                else:
                    self.assertEqual(show_field(read_field(text)), text)


class Refused(Told):
    def test_whatever(self):
        for thing in whatever() + [["endless 0"], ("endless 0",), b"endless 0", {"endless 0": 0}, ["torus", 0, ["a"]]]:
            self.refused_text(read_field, thing)

    def test_texts(self):
        for text in (
            "endless", "endless ", "endless  0", " endless 0", "endless 0 ", "endless 0\n", "endless 00", "endless 01", "endless -1",
            "endless -0", "endless +1", "endless a", "endless 1.", "endless 0 0", "endless 0 0 0", "endless 0 0 0 ", "endless 0 0 0 a ",
            "endless 0 0 0 a/", "endless 0 0 0 /a", "endless 0 0 0 a//a", "endless 0 0 0 .", "endless 0 0 0 ...", "endless 0 0 0 .a",
            "endless 0 0 0 a.", "endless 0 0 0 ./a", "endless 0 0 0 a/.", "endless 0 0 0 .a/.a", "endless 0 0 0 a./a.", "endless 0 0 0 ab/..",
            "endless 0 0 0 ../ab", "endless 0 0 0 ./.", "endless 0 0 0 a/bc", "endless 0 0 0 ab/c", "endless 0 0 0 a_b", "endless 0 0 0 _",
            "endless 0 0 0 A", "endless 0 -0 0 a", "endless 0 0 -0 a", "endless 0 01 0 a", "endless 0 0 00 a", "endless 0 -01 0 a",
            "endless 0 --1 0 a", "endless 0 +1 0 a", "endless 0 - 0 a", "endless 0 0 - a", "endless 0  0 0 a", "endless 0 0 0  a",
            "endless 0 0 a 0", "endless 0 a", "endless 0 0 a", "endless 0 . 0 0 a", "endless 0 0 0 a a", "endless 0 0 0 0 a", "Endless 0",
            "endless\t0", "endless,0", "endless 0\u00b2", "endless \u0660", "endless 0 \u0661 0 a", "endless 0_1", "endless 0 1_0 0 a",
            "torus", "torus 0", "torus 0 ", "torus  0 a", "torus 0  a", "torus 0 a ", " torus 0 a", "torus 0 a\n", "torus 00 a", "torus -1 a",
            "torus -0 a", "torus 0 a/", "torus 0 /a", "torus 0 a//a", "torus 0 ab/c", "torus 0 _", "torus 0 a_", "torus 0 A", "torus a",
            "torus 0 0 0 a", "torus 0 a a", "torus 0 . a", "torus 0\na", "torus a 0", "Torus 0 a", "tori 0 a", "torus 01 a", "torus 0 a b",
            "box", "box 0", "box 0 a", "box 0 a ", "box 0  a", "box 0 a  b", "box  0 a b", " box 0 a b", "box 0 a b ", "box 0 a b\n",
            "box 00 a b", "box -1 a b", "box 0 ab c", "box 0 _ a", "box 0 a _", "box 0 A a", "box 0 a b/", "box 0 a /b", "box 0 a ab/c",
            "box a 0 b", "box 0 / a", "box 0 a a a", "Box 0 a b", "box 01 a b", "box 0 - a", "box 0 0 a", "box 0", "field 0", "0", "0 endless",
        ):
            self.assertFalse(is_field_text(text), text)
            self.refused_text(read_field, text)

    def test_misspelled(self):
        by = chance(17)
        texts = [
            "endless 12", "endless 105 -10 2 a.b/..c/.a.", "torus 7 .../.a.", "box 10 . ab/.z", "endless 0 0 0 a", "endless 1 -1 -20 ab/ba",
            "torus 0 a", "box 0 z .", "endless 1234567890 -1234567890 -1234567890 a",
        ]
        read = 0
        for text in texts:
            for other in misspelled(by, text, " /-.ab019_", 400):
                if is_field_text(other):
                    self.assertEqual(show_field(read_field(other)), other)
                    read += 1
                else:
                    self.refused_text(read_field, other)
        self.assertGreater(read, 300)

    def test_all_is_defined_in_the_file(self):
        for name in (show_field, read_field):
            self.assertEqual(name.__module__, "cellscript.fieldtexts")

    def test_what_is_shown_is_as_it_was(self):
        for field in some_fields()[:20]:
            known = told_of(field)
            show_field(field)
            self.assertEqual(told_of(field), known)


if __name__ == "__main__":
    unittest.main()
