"""[94], [95], and of [3], [4] and [11] what is theirs: deeds and logs as texts."""

import unittest

from cellscript import logs as file
from cellscript.books import Book
from cellscript.errors import CellError, NoLog, NoText
from cellscript.fields import box, endless, torus
from cellscript.fieldtexts import show_field
from cellscript.logs import book_of, read_deed, show_deed, show_log
from cellscript.machine import Machine, read_machine, show_machine
from cellscript.pictures import show_piece
from cellscript.rules import Rule
from cellscript.ruletexts import read_rule, show_rule
from tests.model_books import LIFE, NAMES, RULES, WIRES, ModelBook, Refused, asked_of, clean, some_book_field, some_deed
from tests.model_machines import some_fed, some_machine
from tests.support import FAR, LATE, SIGNS, Told, chance, misspelled, shown, some_parts, whatever

AND = read_machine("in a/in b/and c a b/out c")
NOT = read_machine("in a/not b a/out b")
# Each deed with its text, to the letter.
KNOWN = [
    (("run", "f", 3), "run f 3"), (("run", "f", 0), "run f 0"), (("undo", "abcdefgh", 100), "undo abcdefgh 100"), (("place", "f", -1, 0, 5, ["a_", ".b"]), "place f -1 0 5 a_/.b"),
    (("lay", "f", 0, 0, NOT, {"a": [0, 1, 1]}), "lay f 0 0 a=011 in a/not b a/out b"), (("lay", "f", -FAR, FAR, AND, {}), "lay f -1000000 1000000 - in a/in b/and c a b/out c"),
    (("lay", "f", 0, 0, AND, {"b": [1], "a": [0]}), "lay f 0 0 a=0,b=1 in a/in b/and c a b/out c"), (("lay", "f", 0, 0, AND, {"b": [1]}), "lay f 0 0 b=1 in a/in b/and c a b/out c"),
    (("put", "f", -12, 1000000, "."), "put f -12 1000000 ."), (("put", "z", 0, 0, "z"), "put z 0 0 z"), (("copy", "g", "f"), "copy g f"), (("end", "f"), "end f"), (("end", "end"), "end end"),
    (("rule", "life", LIFE), "rule life around 2 n ne e se s sw w nw/. 3-3=a -> a/a 2-3=a -> a/a -> ."), (("rule", "r", Rule("blocks", 2, (), [])), "rule r blocks 2"),
    (("rule", "r", read_rule("around 3 n e\n.a n=ab 1-2=b -> b")), "rule r around 3 n e/.a n=ab 1-2=b -> b"), (("rule", "r", read_rule("blocks 2\n.a . a . -> a...")), "rule r blocks 2/.a . a . -> a..."),
    (("field", "f", "r", endless([])), "field f r endless 0"), (("field", "f", "r", endless([(-3, 4, "a"), (-2, 5, "b")], turn=7)), "field f r endless 7 -3 4 a./.b"),
    (("field", "f", "r", torus(["ab", ".."], turn=LATE)), "field f r torus 1000000000 ab/.."), (("field", "f", "f", box(["a"], "z")), "field f f box 0 z a"),
]
SPARE = {"a": [0, 1], "b": []}


def written(deed):
    """The text of a deed, by the texts of its parts."""
    word = deed[0]
    if word == "rule":
        return f"rule {deed[1]} " + show_rule(deed[2]).replace("\n", "/")
    if word == "field":
        return f"field {deed[1]} {deed[2]} {show_field(deed[3])}"
    if word == "place":
        return f"place {deed[1]} {deed[2]} {deed[3]} {deed[4]} {show_piece(deed[5])}"
    if word == "lay":
        held = {name: bits for name, bits in deed[5].items() if bits}
        fed = ",".join(f"{name}={''.join(map(str, held[name]))}" for name in sorted(held)) or "-"
        return f"lay {deed[1]} {deed[2]} {deed[3]} {fed} {show_machine(deed[4])}"
    return " ".join(map(str, deed))


def any_deed(by):
    """A deed of any sort by chance, that may be refused by any book."""
    word = by.choice(("rule", "field", "put", "place", "run", "undo", "lay", "copy", "end"))
    name, other = by.choice(NAMES), by.choice(NAMES)
    x, y = (by.choice((0, -1, 1, FAR, -FAR, by.randint(-999, 999))) for _ in range(2))
    if word == "rule":
        return word, name, by.choice((*RULES, Rule(*some_parts(by, by.choice(("around", "halves", "blocks"))))))
    if word == "field":
        return word, name, other, some_book_field(by)
    if word == "put":
        return word, name, x, y, by.choice(SIGNS)
    if word == "place":
        wide = by.randint(1, 5)
        return word, name, x, y, by.randint(0, 7), ["".join(by.choice(SIGNS + "_") for _ in range(wide)) for _ in range(by.randint(1, 5))]
    if word == "lay":
        rows = some_machine(by, 5)
        return word, name, x, y, Machine(rows), some_fed(by, rows)
    if word == "copy":
        return word, name, other
    return (word, name) if word == "end" else (word, name, by.randint(0, 100))


class Rows(Told):
    def test_to_the_letter(self):
        for deed, text in KNOWN:
            self.assertEqual(show_deed(deed), text)
            self.assertEqual(read_deed(text), deed)
            self.assertIs(type(read_deed(text)), tuple)
        self.assertEqual({deed[0] for deed, _ in KNOWN}, {"rule", "field", "put", "place", "run", "undo", "lay", "copy", "end"})

    def test_what_is_fed_without_bits_is_left_out(self):
        self.assertEqual(show_deed(("lay", "f", 0, 0, AND, SPARE)), "lay f 0 0 a=01 in a/in b/and c a b/out c")
        self.assertEqual(show_deed(("lay", "f", 0, 0, AND, {"a": [], "b": []})), "lay f 0 0 - in a/in b/and c a b/out c")
        self.assertEqual(read_deed("lay f 0 0 a=01 in a/in b/and c a b/out c")[5], {"a": [0, 1]})

    def test_there_and_back(self):
        by = chance(200)
        seen = {}
        for _ in range(600):
            deed = any_deed(by)
            text = written(deed)
            self.assertEqual(show_deed(deed), text)
            self.assertEqual(read_deed(text), clean(deed))
            self.assertEqual(show_deed(read_deed(text)), text)
            seen[deed[0]] = seen.get(deed[0], 0) + 1
        self.assertGreater(min(seen.values()), 30)

    def test_what_a_book_tells_is_written_and_read(self):
        by = chance(201)
        for _ in range(20):
            model = ModelBook()
            for _ in range(30):
                try:
                    model.do(some_deed(by, model.state()))
                except Refused:
                    pass
            for deed in model.log:
                self.assertEqual(read_deed(show_deed(deed)), deed)

    def test_rows_that_are_none(self):
        for text in (
            "", " ", "run", "run ", "run f", "run f ", "run  f 3", " run f 3", "run f 3 ", "run f  3", "run f 3 3", "run f 03", "run f -0", "run f +3", "run f -3", "run f 101", "run f 3.0", "run f 1e1",
            "run f 00", "run F 3", "run f1 3", "run abcdefghi 3", "run f 3\n", "\nrun f 3", "run f\n3", "Run f 3", "runs f 3", "run f three", "run f 10000000000", "run f 3/", "run f/3", "run,f,3",
            "undo f -1", "undo f 101", "undo f", "undo 3 f", "put f 0 0", "put f 0 0 aa", "put f 0 0 A", "put f 0 0 _", "put f 0 0 a a", "put f 0 0 ", "put f -0 0 a", "put f 0 01 a", "put f 1000001 0 a",
            "put f 0 -1000001 a", "put f 0 a", "put f a 0 0", "put f 0 --1 a", "put f 0 - a", "put f 0 a\n", "place f 0 0 8 a", "place f 0 0 -1 a", "place f 0 0 a", "place f 0 0 0", "place f 0 0 0 a/",
            "place f 0 0 0 /a", "place f 0 0 0 a/bb", "place f 0 0 0 a b", "place f 0 0 0 A", "place f 0 0 0 a\nb", "place f 0 0 0 " + "a" * 33, "place f 0 0 0 " + "/".join("a" * 33), "place f 0 0 00 a",
            "place f 1000001 0 0 a", "copy f", "copy f g h", "copy f  g", "copy f G", "copy f g ", "copy", "end", "end f g", "end f ", "end  f", "end 1", "end f/", "rule r", "rule r ", "rule r around", "rule r around 1",
            "rule r around 2\n. -> a", "rule r around 2/. -> a/", "rule r around 2//. -> a", "rule r around 2 /. -> a", "rule r around 2/ . -> a", "rule r around 2/. -> a ", "rule r around 2/.  -> a", "rule r around 02",
            "rule r around 28", "rule R around 2", "rule  r around 2", "rule r  around 2", "rule r blocks 2 n", "rule r around 2/. -> b", "rule around 2", "rule r around 2\n", "rule r around 2/\n", "rule r around 2/. -> a\n",
            "field f r", "field f r ", "field f endless 0", "field f r endless", "field f r endless 00", "field f r endless 0 ", "field f r  endless 0", "field f r endless 0 0 0 .", "field f r endless 0 0 0 .a",
            "field f r endless 0 0 a", "field f r torus 0", "field f r torus 0 a/", "field f r torus 0 a\n", "field f r box 0 a", "field f r box 0 ab a", "field f R endless 0", "field f r s endless 0", "field f r Endless 0",
            "field f r torus 0 " + "a" * 33, "lay f 0 0 in a", "lay f 0 0 -", "lay f 0 0 - ", "lay f 0 0  in a", "lay f 0 0 - in a ", "lay f 0 0 -  in a", "lay f 0 0 a= in a", "lay f 0 0 b=1 in a", "lay f 0 0 a=1,b=1 in a",
            "lay f 0 0 b=1,a=1 in a/in b", "lay f 0 0 a=2 in a", "lay f 0 0 a=" + "1" * 61 + " in a", "lay f 0 0 a=1 out a", "lay f 0 0 in a a=1", "lay f 0 0 a=1 in a/", "lay f 0 0 a=1 in a\n", "lay f 0 a=1 in a",
            "lay f 1000001 0 - in a", "lay f 0 -1000001 - in a", "lay f 0 0 {} in a", "lay f 0 0 a=1, in a", "lay f 0 0 b=1 in a/not b a", "lay f 0 0 -,a=1 in a", "lay f 0 0 - in a/and b a", "lay 0 0 - in a",
            "back", "again", "instead 0 run f 3", "names", "log", "none", "machine in a", "in a", "ok",
        ):
            self.refused_text(read_deed, text)

    def test_a_field_whose_text_is_not_read(self):
        far = endless([(FAR, FAR, "a")])
        for _ in range(9999):
            far = far.moved(FAR, FAR)
            if far.frame()[0] >= 9 * 10 ** 9:
                break
        far = far.moved(999999, 999999)
        self.assertEqual(far.frame()[0], 9000999999)
        deed = ("field", "f", "r", far)
        self.assertEqual(read_deed(show_deed(deed)), deed)
        for _ in range(1000):
            far = far.moved(FAR, FAR)
        self.assertEqual(show_deed(("field", "f", "r", far)), "field f r endless 0 10000999999 10000999999 a")
        self.refused_text(read_deed, "field f r endless 0 10000999999 10000999999 a")
        # Turns and spots of a field beyond those that are handed in are read.
        self.assertEqual(read_deed("field f r endless 9999999999 -9999999999 9999999999 a")[3].turn(), 9999999999)

    def test_spoilt_at_any_place(self):
        by = chance(202)
        for deed, text in KNOWN + [(deed, written(deed)) for deed in [any_deed(by) for _ in range(40)]]:
            if len(text) > 200:
                continue
            for at in range(len(text) + 1):
                # A line feed anywhere, a blank more.
                self.refused_text(read_deed, text[:at] + "\n" + text[at:])
                other = text[:at] + " " + text[at:]
                if deed[0] == "rule":
                    # Of one place it may make two.
                    self.read_or_refused(other)
                else:
                    self.refused_text(read_deed, other)
                if text[at:at + 1] == " ":
                    # A blank less.
                    self.read_or_refused(text[:at] + text[at + 1:])
                if text[at:at + 1].isdigit() and not text[at - 1:at].isdigit() and text[at - 1:at] not in ("=", ",") and deed[0] != "lay":
                    # A nought ahead.
                    self.refused_text(read_deed, text[:at] + "0" + text[at:])
            words = text.split(" ")
            for at in range(len(words)):
                self.read_or_refused(" ".join(words[:at] + words[at + 1:]))
                self.read_or_refused(" ".join(words[:at] + words[at:at + 1] + words[at:]))
                self.read_or_refused(" ".join(words[:at] + ["f"] + words[at + 1:]))
                self.read_or_refused(" ".join(words[:at] + ["3"] + words[at + 1:]))

    def test_misspelled(self):
        by = chance(203)
        count = 0
        for _ in range(150):
            text = written(any_deed(by))
            for other in misspelled(by, text, " /-0179=,.ab_>\nnz", 25):
                count += self.read_or_refused(other)
        self.assertGreater(count, 300)

    def read_or_refused(self, text):
        """A text is read as a deed of which it is the very text, or refused."""
        try:
            deed = read_deed(text)
        except NoText as caught:
            self.assertEqual(vars(caught), {})
            return False
        self.assertEqual(written(deed), text)
        self.assertNotIn("\n", text)
        return True

    def test_things_that_are_no_texts(self):
        for thing in whatever():
            self.refused_text(read_deed, thing)
        for thing in (("run", "f", 3), ["run f 3"], b"run f 3", ("run f 3",), Book(), {"run f 3": 0}):
            self.refused_text(read_deed, thing)


class Logs(Told):
    def some(self, seed, many=25):
        by, model, book = chance(seed), ModelBook(), Book()
        while len(book) < many:
            deed = some_deed(by, model.state())
            try:
                book.do(deed)
            except CellError:
                continue
            model.do(deed)
        return by, book

    def test_to_the_letter(self):
        book = Book()
        self.assertEqual(show_log(book), "")
        for deed in (("rule", "r", WIRES), ("field", "f", "r", endless([])), ("lay", "f", 0, 0, NOT, {"a": [1]}), ("run", "f", 9)):
            book.do(deed)
        rows = ["rule r " + show_rule(WIRES).replace("\n", "/"), "field f r endless 0", "lay f 0 0 a=1 in a/not b a/out b", "run f 9"]
        self.assertEqual(show_log(book), "".join(row + "\n" for row in rows))
        book.back()
        self.assertEqual(show_log(book), "".join(row + "\n" for row in rows[:3]))
        self.assertEqual(asked_of(book_of(show_log(book))), asked_of(book))

    def test_the_text_without_signs(self):
        book = book_of("")
        self.assertIs(type(book), Book)
        self.assertEqual(asked_of(book), asked_of(Book()))
        book.do(("rule", "r", LIFE))
        self.assertEqual(len(book_of("")), 0)

    def test_things_that_are_no_texts(self):
        for thing in (None, 0, [], ["end f\n"], b"", Book()):
            self.refused(NoLog, {"at": 0}, book_of, thing)

    def test_there_and_back(self):
        for seed in range(210, 225):
            _, book = self.some(seed)
            text = show_log(book)
            self.assertEqual(text, "".join(written(deed) + "\n" for deed in book.log()))
            other = book_of(text)
            self.assertEqual(other, book)
            self.assertEqual(asked_of(other), asked_of(book))
            self.assertEqual(show_log(other), text)
            # A book that comes up of a text has nothing to do again.
            with self.assertRaises(CellError):
                other.again()

    def test_no_log_at_the_first_row_that_is_no_deeds_text(self):
        _, book = self.some(230, 12)
        rows = show_log(book).split("\n")[:-1]
        for at in range(len(rows)):
            for wrong in ("", " ", "run", "back", "names", rows[at] + " ", " " + rows[at], rows[at].replace(" ", "  ", 1), "run f 101", "put f 0 0 A", "instead 0 end f"):
                spoilt = [*rows[:at], wrong, *rows[at + 1:]]
                self.refused(NoLog, {"at": at}, book_of, "".join(row + "\n" for row in spoilt))
                # Also ahead of another one.
                if at + 1 < len(rows):
                    self.refused(NoLog, {"at": at}, book_of, "".join(row + "\n" for row in [*spoilt[:-1], "none"]))
            self.refused(NoLog, {"at": at}, book_of, "".join(row + "\n" for row in [*rows[:at], "", *rows[at:]]))

    def test_no_deeds_text_ahead_of_what_is_refused(self):
        rows = ["rule r around 2", "field f r endless 0", "run g 1", "run f 1", "none"]
        self.refused(NoLog, {"at": 4}, book_of, "".join(row + "\n" for row in rows))
        self.refused(NoLog, {"at": 2}, book_of, "".join(row + "\n" for row in rows[:4]))
        self.refused(NoLog, {"at": 4}, book_of, "".join(row + "\n" for row in rows[:4]) + "run f 1")
        self.refused(NoLog, {"at": 4}, book_of, "".join(row + "\n" for row in rows[:4]) + " ")

    def test_the_first_that_is_refused(self):
        for rows, at in (
            (["end r"], 0), (["rule r around 2", "rule r around 2"], 1), (["rule r around 2", "field f r endless 0 0 0 b"], 1), (["rule r around 2", "field f r endless 0", "end r", "end f"], 2),
            (["rule r around 2", "field f r endless 0", "undo f 1"], 2), (["rule r around 2", "field f r box 0 a .", "put f 1 0 a", "run g 1"], 2), (["rule r around 2", "field f s endless 0"], 1),
            (["rule r around 2", "field f r endless 0", "lay f 0 0 - in a"], 2), (["rule r around 2", "field f r endless 0", "copy g f", "copy g f"], 3),
        ):
            self.refused(NoLog, {"at": at}, book_of, "".join(row + "\n" for row in rows))
            self.refused(NoLog, {"at": at}, book_of, "".join(row + "\n" for row in rows + ["rule z around 2"]))
            self.assertEqual(len(book_of("".join(row + "\n" for row in rows[:at]))), at)

    def test_a_log_of_100_and_more(self):
        rows = ["rule r around 2", "field f r endless 0"] + ["run f 1"] * 98
        book = book_of("".join(row + "\n" for row in rows))
        self.assertEqual((len(book), book.field("f").turn()), (100, 98))
        self.refused(NoLog, {"at": 100}, book_of, "".join(row + "\n" for row in rows + ["run f 1"]))
        self.refused(NoLog, {"at": 101}, book_of, "".join(row + "\n" for row in rows + ["run f 1", "none"]))
        self.refused(NoLog, {"at": 100}, book_of, "".join(row + "\n" for row in rows + ["run f 1"] * 900))

    def test_signs_behind_the_last_line_feed(self):
        text = "rule r around 2\nfield f r endless 0\n"
        self.assertEqual(len(book_of(text)), 2)
        for behind in ("run f 1", "a", " ", "rule s around 2", "end f", "-"):
            self.refused(NoLog, {"at": 2}, book_of, text + behind)
        self.refused(NoLog, {"at": 1}, book_of, text[:-1])
        self.refused(NoLog, {"at": 0}, book_of, "rule r around 2")
        self.refused(NoLog, {"at": 0}, book_of, " ")
        for more in ("\n", "\n\n", "\nrun f 1\n"):
            self.refused(NoLog, {"at": 2}, book_of, text + more)
        self.refused(NoLog, {"at": 0}, book_of, "\n")
        self.refused(NoLog, {"at": 0}, book_of, "\n" + text)

    def test_by_chance(self):
        by = chance(240)
        for seed in range(241, 249):
            _, book = self.some(seed, 10)
            text = show_log(book)
            for other in misspelled(by, text, " /-01=.abrf\n", 30):
                *rows, left = other.split("\n")
                known = None
                for at, row in enumerate(rows):
                    try:
                        read_deed(row)
                    except NoText:
                        known = at
                        break
                if known is None and left:
                    known = len(rows)
                made = Book()
                for at, row in enumerate(rows if known is None else ()):
                    try:
                        made.do(read_deed(row))
                    except CellError:
                        known = at
                        break
                if known is None:
                    self.assertEqual(asked_of(book_of(other)), asked_of(made))
                else:
                    self.refused(NoLog, {"at": known}, book_of, other)

    def test_a_field_whose_text_is_not_read(self):
        book, far = Book(), endless([(0, 0, "a")])
        for _ in range(10001):
            far = far.moved(FAR, 0)
        book.do(("rule", "r", LIFE))
        book.do(("field", "f", "r", far))
        book.do(("run", "f", 1))
        self.assertEqual(show_log(book).split("\n")[1], "field f r endless 0 10001000000 0 a")
        self.refused(NoLog, {"at": 1}, book_of, show_log(book))


class NothingIsChanged(Told):
    def test_what_was_handed_in(self):
        for deed, text in KNOWN + [(("lay", "f", 0, 0, AND, {"b": [0, 1], "a": []}), "lay f 0 0 b=01 in a/in b/and c a b/out c")]:
            known = tuple(list(part) if isinstance(part, list) else {name: list(part[name]) for name in part} if isinstance(part, dict) else part for part in deed)
            self.assertEqual(show_deed(deed), text)
            self.assertEqual(deed, known)
        book = book_of("rule r around 2\nfield f r endless 0\nplace f 0 0 0 a_/_a\n")
        book.back()
        known = asked_of(book)
        show_log(book)
        self.assertEqual(asked_of(book), known)
        self.assertEqual(book.again(), ("place", "f", 0, 0, 0, ["a_", "_a"]))

    def test_what_was_told(self):
        for text in ("place f 0 0 0 a_/_a", "lay f 0 0 a=01 in a"):
            known = read_deed(text)
            part = read_deed(text)[5]
            if isinstance(part, dict):
                part["a"].clear()
            part.clear()
            self.assertEqual(read_deed(text), known, shown(text))

    def test_all_is_defined_in_the_file(self):
        for name in ("show_deed", "read_deed", "show_log", "book_of"):
            self.assertEqual(getattr(file, name).__module__, "cellscript.logs")


if __name__ == "__main__":
    unittest.main()
