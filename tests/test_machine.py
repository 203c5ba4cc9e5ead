"""[81], [83], of [82] the texts of what is fed, and of [3] and [4] what is theirs: machines and their texts."""

import unittest

from cellscript import machine as file
from cellscript.errors import BadRow
from cellscript.machine import Machine, read_fed, read_machine, show_fed, show_machine
from tests.model_machines import READS, model_size, some_fed, some_machine
from tests.support import Hostile, Like, Told, chance, misspelled, nested, whatever

EVERY = [
    ("in", "a"), ("one", "b"), ("not", "c", "a"), ("flip", "d", "b"), ("and", "e", "a", "d"), ("or", "f", "e", "a"), ("xor", "g", "f", "f"),
    ("hold", "h", "g", "b"), ("out", "h"),
]
TWELVE = [("in", "a")] + [("not", other, one) for one, other in zip("abcdefghijk", "bcdefghijkl")]
# Texts that are no words.
NO_WORDS = ("", "abcdefghi", "A", "aB", "a1", "a b", " a", "a_", "a\n", "-", ".", "a/b", "a=b", "\u00e9", "b" * 10000)


def ins(many):
    return [("in", name) for name in "abcdefghijklm"[:many]]


class Rows(Told):
    def bad(self, at, rows):
        self.refused(BadRow, {"at": at}, Machine, rows)

    def test_every_kind_of_row(self):
        made = Machine(EVERY)
        self.assertEqual(made.rows(), EVERY)
        self.assertEqual((made.names(), made.ins(), made.outs()), (list("abcdefgh"), ["a"], ["h"]))
        for word, many in READS.items():
            rows = [("one", "x"), ("in", "y"), (word, "z", *["x", "y"][:many])]
            self.assertEqual(Machine(rows).rows(), rows)
            self.assertEqual(Machine(rows[:2] + [(word, "z", *["x", "x"][:many]), ("out", "z")]).outs(), ["z"])

    def test_by_chance(self):
        by = chance(160)
        for _ in range(300):
            rows = some_machine(by)
            made = Machine(rows)
            self.assertEqual(made.rows(), rows)
            self.assertEqual(made.names(), [row[1] for row in rows if row[0] != "out"])
            self.assertEqual(made.ins(), [row[1] for row in rows if row[0] == "in"])
            self.assertEqual(made.outs(), [row[1] for row in rows if row[0] == "out"])
            self.assertEqual((made.wide(), made.high()), model_size(rows))
            for told in (made.names(), made.ins(), made.outs()):
                self.assertIs(type(told), list)

    def test_in_the_order_of_rows(self):
        made = Machine([("one", "z"), ("out", "z"), ("in", "y"), ("in", "b"), ("not", "a", "y"), ("out", "a"), ("in", "c"), ("out", "b")])
        self.assertEqual((made.names(), made.ins(), made.outs()), (["z", "y", "b", "a", "c"], ["y", "b", "c"], ["z", "a", "b"]))
        self.assertEqual((made.wide(), made.high()), (6, 5))

    def test_wide_and_high(self):
        for many in range(1, 7):
            made = Machine(ins(many))
            self.assertEqual((made.wide(), made.high()), (2, many))
        self.assertEqual((Machine(EVERY).wide(), Machine(EVERY).high()), (16, 8))
        self.assertEqual((Machine(TWELVE).wide(), Machine(TWELVE).high()), (24, 12))
        self.assertEqual((Machine([("one", "a")]).wide(), Machine([("one", "a"), ("out", "a")]).high()), (4, 1))

    def test_words_are_names_too(self):
        rows = [("in", "in"), ("one", "one"), ("and", "and", "in", "one"), ("out", "and"), ("not", "out", "and"), ("out", "out")]
        self.assertEqual(Machine(rows).outs(), ["and", "out"])
        self.assertEqual(Machine([("in", "abcdefgh")]).names(), ["abcdefgh"])

    def test_no_rows_and_no_lists(self):
        self.bad(0, [])
        for thing in whatever():
            self.bad(0, thing)
        for thing in (tuple(EVERY), {0: EVERY[0]}, "in a", iter(EVERY), None, Machine(EVERY), (("in", "a"),)):
            self.bad(0, thing)

    def test_rows_that_are_none(self):
        spoilt = [
            (), ("in",), ("in", "z", "a"), ("in", "z", "z"), ("one",), ("one", "z", "a"), ("not", "z"), ("not", "z", "a", "a"), ("flip", "z"), ("flip", "z", "a", "b"),
            ("and", "z"), ("and", "z", "a"), ("and", "z", "a", "b", "a"), ("or", "z", "a"), ("xor", "z", "a"), ("hold", "z", "a"), ("hold", "z", "a", "b", "b"),
            ("out",), ("out", "a", "b"), ("out", "a", "a"), ("nand", "z", "a", "b"), ("In", "z"), ("in ", "z"), ("", "z"), ("a", "z"), ("input", "z"), (None, "z"), (1, "z"),
            ("in", None), ("in", 1), ("in", ["z"]), ("in", ("z",)), (("in",), "z"), (["in"], "z"), ("not", "z", None), ("not", "z", ["a"]), ("and", "z", "a", 0),
            ["in", "z"], {"in": "z"}, "in z", "in", None, 0, True, ("out", None), ("out", ["a"]), (Hostile(), "z"), ("in", Hostile()), ("not", "z", Hostile()),
            (Like(), "z"), ("in", Like()), ("not", "z", Like()), ("out", Like()), (b"in", "z"), ("in", b"z"), Hostile(), Like(),
        ]
        for row in spoilt + whatever():
            self.bad(0, [row])
            self.bad(2, [("in", "a"), ("one", "b"), row])
            self.bad(1, [("in", "a"), row, ("out", "a")])
            self.bad(1, [("in", "a"), row, row])

    def test_names_that_are_no_words(self):
        for name in NO_WORDS:
            for row in (("in", name), ("one", name), ("not", name, "a"), ("not", "z", name), ("and", name, "a", "a"), ("and", "z", name, "a"), ("and", "z", "a", name),
                        ("out", name), ("flip", "z", name), ("hold", "z", "a", name)):
                self.bad(1, [("in", "a"), row, None])

    def test_made_once(self):
        for row in (("in", "a"), ("one", "a"), ("not", "a", "b"), ("flip", "a", "a"), ("and", "a", "b", "b"), ("or", "b", "a", "a"), ("xor", "b", "b", "a"), ("hold", "b", "a", "b")):
            self.bad(2, [("in", "a"), ("one", "b"), row])
        self.bad(2, [("in", "a"), ("out", "a"), ("one", "a")])

    def test_made_ahead(self):
        for row in (("not", "z", "b"), ("not", "z", "z"), ("flip", "z", "z"), ("and", "z", "a", "z"), ("and", "z", "z", "a"), ("or", "z", "b", "a"), ("xor", "z", "a", "b"),
                    ("hold", "z", "a", "z"), ("hold", "z", "z", "a"), ("out", "z"), ("out", "b"), ("out", "out")):
            self.bad(1, [("in", "a"), row, ("one", "b"), ("one", "z")])
        for row in (("not", "z", "a"), ("out", "a")):
            self.bad(0, [row, ("in", "a")])

    def test_out_once(self):
        self.bad(2, [("in", "a"), ("out", "a"), ("out", "a")])
        self.bad(4, [("in", "a"), ("out", "a"), ("one", "b"), ("out", "b"), ("out", "a")])

    def test_12_names(self):
        self.assertEqual(len(Machine(TWELVE).names()), 12)
        self.assertEqual(len(Machine(TWELVE + [("out", "l"), ("out", "a")]).rows()), 14)
        for row in (("one", "z"), ("in", "z"), ("not", "z", "a"), ("hold", "z", "a", "b")):
            self.bad(12, TWELVE + [row])
            self.bad(13, TWELVE + [("out", "a"), row])
            self.bad(12, TWELVE[:11] + [("out", "a"), ("not", "a", "b"), row])

    def test_6_ins(self):
        self.assertEqual(Machine(ins(6)).ins(), list("abcdef"))
        self.bad(6, ins(7))
        self.bad(7, ins(6) + [("one", "z"), ("in", "y")])
        self.assertEqual(len(Machine(ins(6) + [("one", name) for name in "uvwxyz"]).names()), 12)

    def test_6_outs(self):
        rows = TWELVE + [("out", name) for name in "abcdef"]
        self.assertEqual(Machine(rows).outs(), list("abcdef"))
        self.bad(18, rows + [("out", "g")])
        self.bad(13, [row for name in "abcdefgh" for row in (("one", name), ("out", name))])

    def test_the_first_row_that_is_none(self):
        self.bad(1, [("in", "a"), ("not", "b", "z"), ("in", "a")])
        self.bad(0, [None, ("in", "a"), ("in", "a")])
        self.bad(3, [("in", "a"), ("in", "b"), ("in", "c"), ("in", "c"), None])

    def test_ten_thousand_parts(self):
        self.bad(0, [nested(48, lambda thing: (thing, "a"))])
        self.bad(1, [("one", "a"), nested(48, lambda thing: ("not", "b", thing))])
        self.bad(12, TWELVE + [("in", "z")] * 3000)
        self.bad(1, [("one", "a"), ("not", "b") + ("a",) * 9000])
        self.bad(2, [("one", "a"), ("out", "a")] * 3000)


class Alike(Told):
    def test_just_where_the_rows_are(self):
        by = chance(161)
        made = [(rows, Machine(list(rows))) for rows in [some_machine(by, 3) for _ in range(60)]]
        for rows, one in made:
            for others, other in made:
                self.assertIs(one == other, rows == others)
                self.assertIs(one != other, rows != others)

    def test_unlike_any_other_thing(self):
        made = Machine(EVERY)
        for thing in whatever() + [EVERY, tuple(EVERY), show_machine(made), Hostile]:
            if not isinstance(thing, (Hostile, Like)):
                self.assertIs(made == thing, False)
                self.assertIs(made != thing, True)
        self.assertEqual(Machine(EVERY), Machine([*EVERY]))
        self.assertNotEqual(Machine([("in", "a"), ("in", "b")]), Machine([("in", "b"), ("in", "a")]))
        self.assertNotEqual(Machine([("in", "a"), ("out", "a")]), Machine([("in", "a")]))


class Texts(Told):
    def test_to_the_letter(self):
        rows = [("in", "a"), ("in", "b"), ("and", "c", "a", "b"), ("out", "c")]
        self.assertEqual(show_machine(Machine(rows)), "in a/in b/and c a b/out c")
        self.assertEqual(read_machine("in a/in b/and c a b/out c").rows(), rows)
        self.assertEqual(show_machine(Machine([("one", "a")])), "one a")

    def test_there_and_back(self):
        by = chance(162)
        for _ in range(200):
            rows = some_machine(by)
            text = "/".join(" ".join(row) for row in rows)
            self.assertEqual(show_machine(Machine(rows)), text)
            self.assertEqual(read_machine(text), Machine(rows))
            self.assertEqual(read_machine(text).rows(), rows)

    def test_texts_that_are_none(self):
        for text in ("", " ", "/", "in", "in ", " in a", "in a ", "in  a", "in a/", "/in a", "in a//in b", "in a/ in b", "in a /in b", "in a\n", "in a\nin b", "\nin a",
                     "in a/not b  a", "in a/not b", "in a/not b b", "in a/not b a a", "in a/in a", "out a", "in A", "In a", "in a1", "in a/out b", "in a/out a/out a", "in\ta",
                     "in abcdefghi", "none", "-", "in a,in b", "in a/and b a", "/".join("in " + name for name in "abcdefg"), "one a/" + "/".join(["out a"] * 2),
                     "/".join("one " + name for name in "abcdefghijklm"), "in a/not a=b"):
            self.refused_text(read_machine, text)

    def test_misspelled(self):
        by = chance(163)
        for _ in range(60):
            text = show_machine(Machine(some_machine(by)))
            for other in misspelled(by, text, " /\nabz=", 20):
                try:
                    rows = [tuple(row.split(" ")) for row in other.split("/")]
                    known = Machine(rows)
                except BadRow:
                    self.refused_text(read_machine, other)
                else:
                    self.assertEqual(read_machine(other), known)
                    self.assertEqual(show_machine(known), other)

    def test_things_that_are_no_texts(self):
        for thing in whatever():
            self.refused_text(read_machine, thing)
        for thing in (EVERY, Machine(EVERY), ["in a"], ("in", "a"), b"in a", 0):
            self.refused_text(read_machine, thing)


class Fed(Told):
    def test_to_the_letter(self):
        self.assertEqual(show_fed({"b": [0, 1, 1], "a": [1]}), "a=1,b=011")
        self.assertEqual(show_fed({"zz": [0], "c": [], "b": [1, 0]}), "b=10,zz=0")
        self.assertEqual((show_fed({}), show_fed({"a": []}), show_fed({"b": [], "a": []})), ("-", "-", "-"))
        self.assertEqual(read_fed("-"), {})
        self.assertEqual(read_fed("a=1,b=011"), {"a": [1], "b": [0, 1, 1]})
        self.assertEqual(read_fed("a=" + "10" * 30), {"a": [1, 0] * 30})
        # As texts go: of two words the one that is the beginning of the other goes first.
        self.assertEqual(show_fed({"ab": [0], "b": [0], "a": [0], "abc": [1]}), "a=0,ab=0,abc=1,b=0")
        self.assertEqual(list(read_fed("a=0,ab=0,abc=1,b=0")), ["a", "ab", "abc", "b"])

    def test_there_and_back(self):
        by = chance(164)
        for _ in range(300):
            fed = some_fed(by, some_machine(by, words=("in", "in", "one")))
            held = {name: bits for name, bits in fed.items() if bits}
            text = ",".join(f"{name}={''.join(map(str, held[name]))}" for name in sorted(held)) or "-"
            self.assertEqual(show_fed(fed), text)
            self.assertEqual(read_fed(text), held)
            for bits in read_fed(text).values():
                self.assertEqual({type(bit) for bit in bits}, {int})

    def test_texts_that_are_none(self):
        for text in ("", " ", "--", "- ", " -", "-,a=1", "a=1,-", "a=1,", ",a=1", ",", "=", "=1", "a", "a=", "a=,b=1", "a=1,b=", "a=2", "a=1 ", " a=1", "a =1", "a= 1",
                     "a=1, b=1", "a=1,,b=1", "a==1", "a=1=0", "a=1\n", "a=1,\nb=1", "b=1,a=1", "a=1,a=1", "a=1,a=0", "a=1,b=0,b=1", "A=1", "a1=1", "a_=1", "abcdefghi=1",
                     "a=" + "1" * 61, "a=1,b=" + "0" * 61, "a=-1", "a=01a", "a=1/b=0", "a=1;b=0", "a:1", "none", "a=\u0661", "a=\u00b9", "ab=1,a=1", "a=1,b=1,a=1", "1=a"):
            self.refused_text(read_fed, text)

    def test_misspelled(self):
        by = chance(165)
        for _ in range(100):
            names = sorted({by.choice(("a", "b", "ab", "zz", "abcdefgh")) for _ in range(3)})
            text = ",".join(name + "=" + "".join(by.choice("01") for _ in range(by.choice((1, 2, 60)))) for name in names)
            for other in misspelled(by, text, "01,=-ab \n", 20):
                parts = [part.split("=") for part in other.split(",")]
                right = all(
                    len(part) == 2 and 1 <= len(part[0]) <= 8 and set(part[0]) <= set("abcdefghz") and 1 <= len(part[1]) <= 60 and set(part[1]) <= set("01")
                    for part in parts
                )
                if right and all(one[0] < after[0] for one, after in zip(parts, parts[1:])):
                    self.assertEqual(read_fed(other), {name: list(map(int, bits)) for name, bits in parts})
                else:
                    self.refused_text(read_fed, other)

    def test_things_that_are_no_texts(self):
        for thing in whatever():
            self.refused_text(read_fed, thing)
        for thing in ({"a": [1]}, ["a=1"], ("a=1",), b"a=1", b"-", {}):
            self.refused_text(read_fed, thing)


class NothingIsChanged(Told):
    def test_what_was_handed_in(self):
        rows = list(EVERY)
        made = Machine(rows)
        self.assertEqual(rows, EVERY)
        rows.clear()
        self.assertEqual(made.rows(), EVERY)
        self.assertEqual((made.names(), made.wide(), made.high()), (list("abcdefgh"), 16, 8))
        self.assertEqual(made, Machine(EVERY))
        spoilt = EVERY + [None, []]
        self.refused(BadRow, {"at": 9}, Machine, spoilt)
        self.assertEqual(spoilt, EVERY + [None, []])
        fed = {"b": [0], "a": [], "aa": [1, 1]}
        show_fed(fed)
        self.assertEqual((fed, list(fed)), ({"b": [0], "a": [], "aa": [1, 1]}, ["b", "a", "aa"]))

    def test_what_was_told(self):
        made = Machine(EVERY)
        for call, known in ((made.rows, EVERY), (made.names, list("abcdefgh")), (made.ins, ["a"]), (made.outs, ["h"])):
            self.assertEqual(call(), known)
            call().append("z")
            call().clear()
            self.assertEqual(call(), known)
        self.assertEqual((made.wide(), made.high(), show_machine(made)), (16, 8, "/".join(" ".join(row) for row in EVERY)))
        told = read_fed("a=1,b=0")
        told["a"].append(1)
        told.clear()
        self.assertEqual(read_fed("a=1,b=0"), {"a": [1], "b": [0]})

    def test_all_is_defined_in_the_file(self):
        for name in ("Machine", "show_machine", "read_machine", "show_fed", "read_fed"):
            self.assertEqual(getattr(file, name).__module__, "cellscript.machine")
        for name in ("rows", "names", "ins", "outs", "wide", "high"):
            self.assertIn(name, vars(Machine))


if __name__ == "__main__":
    unittest.main()
