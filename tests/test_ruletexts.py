"""[25]: texts of rules."""

import re
import unittest

from cellscript import ruletexts
from cellscript.errors import NoText
from cellscript.ruletexts import read_rule, show_rule
from cellscript.rules import Rule
from tests.support import BESIDE, SIGNS, SORTS, WAYS, Told, chance, misspelled, some_parts, whatever

PLACE = "(?:ne|nw|n|e|se|sw|s|w)"
HEAD = re.compile(f"(around|halves|blocks) ([2-9]|1[0-9]|2[0-7])((?: {PLACE})*)")
CELL_ROW = re.compile(r"([.a-z]+)((?: [a-z0-8-]+=[.a-z]+){0,8}) -> ([.a-z])")
CELL_TEST = re.compile(f" (?:({PLACE})|([0-8])-([0-8]))=([.a-z]+)")
BLOCK_ROW = re.compile(r"([.a-z]+) ([.a-z]+) ([.a-z]+) ([.a-z]+) -> ([.a-z]{4})")


def rises(signs, many):
    return list(signs) == sorted(set(signs)) and set(signs) <= set(SIGNS[:many])


def is_cell_row(line, many, near):
    found = CELL_ROW.fullmatch(line)
    if not found or not rises(found[1], many) or found[3] not in SIGNS[:many]:
        return False
    tests = found[2].split(" ")[1:]
    for test in tests:
        parts = CELL_TEST.fullmatch(" " + test)
        if not parts or not rises(parts[4], many):
            return False
        if parts[1] and parts[1] not in near or parts[2] and parts[2] > parts[3]:
            return False
    return True


def is_block_row(line, many):
    found = BLOCK_ROW.fullmatch(line)
    return bool(found) and all(rises(found[at], many) for at in range(1, 5)) and set(found[5]) <= set(SIGNS[:many])


def is_rule_text(text):
    """Whether a text is that of a rule, told otherwise than the program does."""
    head, *lines = text.split("\n")
    found = HEAD.fullmatch(head)
    if not found or len(lines) > 80:
        return False
    sort, many, near = found[1], int(found[2]), found[3].split()
    allowed = {"around": set(BESIDE), "halves": set("nesw"), "blocks": set()}[sort]
    if len(set(near)) < len(near) or not set(near) <= allowed:
        return False
    if sort == "blocks":
        return all(is_block_row(line, many) for line in lines)
    return all(is_cell_row(line, many, near) for line in lines)


def model_text(parts):
    """The text of a rule of these parts."""
    sort, many, near, rows = parts
    text = f"{sort} {many}"
    for place in near:
        text += " " + place
    for row in rows:
        if sort == "blocks":
            text += "\n" + row[0][0] + " " + row[0][1] + " " + row[0][2] + " " + row[0][3] + " -> " + row[1]
            continue
        text += "\n" + row[0]
        for test in row[1]:
            text += f" {test[1]}={test[2]}" if test[0] == "at" else f" {test[1]}-{test[2]}={test[3]}"
        text += " -> " + row[2]
    return text


AROUND = "around 3 n e\n.a n=ab 1-2=b -> b"
HALVES = "halves 27 w\nz w=.z 0-8=.abcdefghijklmnopqrstuvwxyz -> .\n. -> ."
BLOCKS = "blocks 2\n.a . a . -> a..."


class Shown(Told):
    def test_the_examples(self):
        rule = Rule("around", 3, ("n", "e"), [(".a", (("at", "n", "ab"), ("count", 1, 2, "b")), "b")])
        self.assertEqual(show_rule(rule), AROUND)
        self.assertEqual(read_rule(AROUND), rule)
        rule = Rule("blocks", 2, (), [((".a", ".", "a", "."), "a...")])
        self.assertEqual(show_rule(rule), BLOCKS)
        self.assertEqual(read_rule(BLOCKS), rule)

    def test_without_rows_or_near(self):
        for sort in SORTS:
            self.assertEqual(show_rule(Rule(sort, 10, (), [])), f"{sort} 10")
            self.assertEqual(read_rule(f"{sort} 10"), Rule(sort, 10, (), []))
        self.assertEqual(read_rule("halves 2 s n\na -> ."), Rule("halves", 2, ("s", "n"), [("a", (), ".")]))

    def test_there_and_back(self):
        by = chance(10)
        for sort in SORTS:
            for _ in range(100):
                parts = some_parts(by, sort)
                for way in WAYS:
                    rule = Rule(*parts).turned(way)
                    text = show_rule(rule)
                    self.assertEqual(text, model_text((sort, rule.many(), rule.near(), rule.rows())))
                    self.assertEqual(read_rule(text), rule)

    def test_80_rows(self):
        for row, near, sort in ((". -> a", " n", "around"), ("a n=. -> a", " n", "halves"), (". . . . -> ....", "", "blocks")):
            text = "\n".join([f"{sort} 2{near}", *[row] * 80])
            rule = read_rule(text)
            self.assertEqual((len(rule), show_rule(rule)), (80, text))
            self.refused_text(read_rule, text + "\n" + row)

    def test_all_many(self):
        for many in range(30):
            text = f"around {many}"
            if 2 <= many <= 27:
                self.assertEqual(read_rule(text).many(), many)
            else:
                self.refused_text(read_rule, text)

    def test_eight_tests(self):
        text = "around 2 n\na" + " n=a 0-8=a" * 4 + " -> ."
        self.assertEqual(show_rule(read_rule(text)), text)
        self.refused_text(read_rule, text.replace(" ->", " n=a ->"))


class Refused(Told):
    def test_whatever(self):
        for thing in whatever() + [["around 2"], ("around 2",), b"around 2", {"around 2": 0}, [AROUND]]:
            self.refused_text(read_rule, thing)

    def test_texts(self):
        for text in (
            "around", "around ", "around  2", " around 2", "around 2 ", "around 2\n", "around 2\n\n", "\naround 2", "around 02",
            "around +2", "around -2", "around 2.", "around two", "around 2 n n", "around 2 n  e", "around 2 N", "around 2 x",
            "around 2 n,e", "halves 2 ne", "halves 2 n n", "blocks 2 n", "Around 2", "AROUND 2", "half 2", "2 around", "around 2n",
            "around 1_0", "around \u0662", "around 2\u00b2", "around\t2", "around 2\r\n. -> a", "around 2,n", "life 2", "around 100000",
            "around 2\n. -> ", "around 2\n -> a", "around 2\n->", "around 2\n. a", "around 2\n. - > a", "around 2\n.-> a",
            "around 2\n. ->a", "around 2\n. -> a ", "around 2\n.  -> a", "around 2\n. ->  a", "around 2\n . -> a", "around 2\n. -> aa",
            "around 2\n. -> b", "around 2\nb -> .", "around 2\na. -> .", "around 2\naa -> .", "around 2\n. => a", "around 2\n. -> -> a",
            "around 2 n\n. n -> a", "around 2 n\n. n= -> a", "around 2 n\n. =a -> a", "around 2 n\n. n=b -> a", "around 2 n\n. n=a. -> a",
            "around 2 n\n. e=a -> a", "around 2\n. n=a -> a", "around 2 n\n. n=a=a -> a", "around 2 n\n. n==a -> a", "around 2 n\n. n:a -> a",
            "around 2\n. 1=a -> a", "around 2\n. 1-=a -> a", "around 2\n. -1=a -> a", "around 2\n. 2-1=a -> a", "around 2\n. 0-9=a -> a",
            "around 2\n. 9-9=a -> a", "around 2\n. 01-2=a -> a", "around 2\n. 1-02=a -> a", "around 2\n. 00-2=a -> a", "around 2\n. 1--2=a -> a",
            "around 2\n. 1-2-3=a -> a", "around 2\n. +1-2=a -> a", "around 2\n. 1-2= -> a", "around 2\n. 1-2=b -> a", "around 2\n. 1-2 -> a",
            "around 2\n. 1 2=a -> a", "around 2\n. \u0661-2=a -> a", "around 2\n. -> a\n", "around 2\n\n. -> a", "around 2 . -> a",
            "blocks 2\n. . . -> ....", "blocks 2\n. . . . . -> ....", "blocks 2\n. . . . -> ...", "blocks 2\n. . . . -> .....",
            "blocks 2\n. . . . ->", "blocks 2\n. . . . ....", "blocks 2\n. . . . -> ...b", "blocks 2\nb . . . -> ....",
            "blocks 2\n. a. . . -> ....", "blocks 2\n. aa . . -> ....", "blocks 2\n.  . . . -> ....", "blocks 2\n. . . .  -> ....",
            "blocks 2\n. . . . -> ....\n", "blocks 2\n. . . . => ....", "blocks 2\n. -> a", "around 2\n. . . . -> ....", "halves 2\n. . . . -> ....",
            "blocks 2\n. . . . -> -> ....", "blocks 2\n. . -> . . ....", "blocks 2\n. . . . .... ->",
        ):
            self.assertFalse(is_rule_text(text), text)
            self.refused_text(read_rule, text)

    def test_rows_of_another_sort(self):
        for head, row in (("around 2", BLOCKS.split("\n")[1]), ("halves 2", BLOCKS.split("\n")[1]), ("blocks 2", ". -> a")):
            self.refused_text(read_rule, head + "\n" + row)

    def test_81_rows(self):
        self.refused_text(read_rule, "\n".join(["around 2", *[". -> a"] * 81]))
        self.refused_text(read_rule, "\n".join(["around 2", *[". -> a"] * 5000]))

    def test_misspelled(self):
        by = chance(11)
        texts = [AROUND, HALVES, BLOCKS]
        texts += [model_text(some_parts(by, sort, many)) for sort in SORTS for many in (2, 3, 27) for _ in range(4)]
        read = 0
        for text in texts:
            self.assertTrue(is_rule_text(text))
            for other in misspelled(by, text, " \n=->.abn0128e", 150):
                if is_rule_text(other):
                    self.assertEqual(show_rule(read_rule(other)), other)
                    read += 1
                else:
                    self.refused_text(read_rule, other)
        self.assertGreater(read, 100)

    def test_each_part_out_or_twice(self):
        for text in (AROUND, HALVES, BLOCKS):
            words = re.split("( |\n)", text)
            for at in range(len(words)):
                for other in (words[:at] + words[at + 1:], words[:at + 1] + words[at:]):
                    other = "".join(other)
                    if is_rule_text(other):
                        self.assertEqual(show_rule(read_rule(other)), other)
                    else:
                        self.refused_text(read_rule, other)

    def test_figures(self):
        for text in ("around 2", "around 20"):
            for other in (text.replace("2", "0002"), text + "0" * 9, text + "0" * 10000):
                with self.assertRaises(NoText):
                    read_rule(other)

    def test_all_is_defined_in_the_file(self):
        self.assertEqual(show_rule.__module__, "cellscript.ruletexts")
        self.assertEqual(ruletexts.read_rule.__module__, "cellscript.ruletexts")

    def test_what_is_shown_is_as_it_was(self):
        rule = read_rule(AROUND)
        show_rule(rule)
        self.assertEqual(rule, read_rule(AROUND))
        self.assertIsNot(read_rule(AROUND), read_rule(AROUND))


if __name__ == "__main__":
    unittest.main()
