"""[96], [97], and of [3] and [4] what is theirs: the desk, and the end that keeps no state."""

import unittest

from cellscript import desk as desk_file
from cellscript import end as end_file
from cellscript.books import Book
from cellscript.desk import Desk
from cellscript.end import answered
from cellscript.errors import (
    Alien, Broken, CellError, Early, NoCell, NoLine, NoLog, NoText, Nothing, NoWay, Strange, Taken, TooFar, TooMany, Unknown, Used, Wrong,
)
from cellscript.fields import endless
from cellscript.fieldtexts import show_field
from cellscript.laying import lay
from cellscript.logs import book_of, read_deed, show_deed, show_log
from cellscript.machine import read_machine
from cellscript.meaning import meaning
from cellscript.patterns import paper_of
from cellscript.plain import run
from cellscript.ruletexts import show_rule
from tests.model_books import LIFE, SWAPPING, TURNING, WIRES, ModelBook, Refused, all_again, asked_of, some_deed
from tests.model_machines import made_by, some_fed, some_machine
from tests.support import FAR, Told, chance, misspelled, shown, whatever

RULE = {"life": LIFE, "wires": WIRES, "turning": TURNING, "swapping": SWAPPING}
GLIDER = "endless 0 0 0 .a./..a/aaa"
AND = "in a/in b/and c a b/out c"


def in_row(rule):
    return show_rule(rule).replace("\n", "/")


# The rows of a book with rules and fields of several sorts.
ROWS = [
    *[f"rule {name} {in_row(rule)}" for name, rule in RULE.items()], f"field g life {GLIDER}", "field w wires endless 0", "field t swapping torus 3 ab/..", "field b life box 5 a .a./...",
    f"lay w 0 0 a=011,b=11 {AND}", "run w 9",
]


def begun(rows=tuple(ROWS)):
    desk = Desk()
    for row in rows:
        desk.say(row)
    return desk


class Desks(Told):
    def answer(self, desk, row, known):
        """A row that asks is answered so, and changes nothing; so is it by the end that keeps no state."""
        text = show_log(desk.book())
        told = desk.say(row)
        self.assertIs(type(told), str)
        self.assertEqual(told, known, row)
        self.assertEqual(show_log(desk.book()), text)
        self.assertEqual(answered(text, row), known)

    def no(self, error, kept, desk, row):
        """A row is refused, and nothing is changed; so is it by the end that keeps no state."""
        book = desk.book()
        self.refused(error, kept, desk.say, row)
        self.assertEqual(asked_of(desk.book()), asked_of(book))
        self.assertEqual(all_again(desk.book()), all_again(book))
        if error is not Nothing:
            self.refused(error, kept, answered, show_log(book), row)


class Deeds(Desks):
    def test_done_and_answered(self):
        desk, book = Desk(), Book()
        for row in [*ROWS, "put g 9 -9 a", "place g -1 0 5 a_/.a", "run g 0", "copy h g", "undo t 2", "end h", "end g", "rule h blocks 2"]:
            self.assertEqual(answered(show_log(book), row), "ok")
            self.assertEqual(desk.say(row), "ok", row)
            book.do(read_deed(row))
            self.assertEqual(asked_of(desk.book()), asked_of(book))

    def test_refused_as_the_book_refuses(self):
        desk = begun()
        for row, error, kept in (
            ("run nope 1", Unknown, {"name": "nope"}), ("run life 1", Unknown, {"name": "life"}), ("copy g g", Taken, {"name": "g"}), ("rule g around 2", Taken, {"name": "g"}), ("end life", Used, {"name": "b"}),
            (f"lay g 0 0 - {AND}", Alien, {"name": "g"}), ("put b 3 0 a", NoCell, {"x": 3, "y": 0}), ("put g 1000000 0 a", TooFar, {"most": 200}), ("put g 0 0 b", Strange, {"sign": "b"}),
            ("run g 99", TooFar, {"most": 200}), ("undo g 1", NoWay, {}), ("undo t 4", Early, {"now": 3}), ("undo w 1", TooMany, {"most": 4}), ("field z nope endless 0", Unknown, {"name": "nope"}),
        ):
            self.no(error, kept, desk, row)

    def test_a_log_of_100(self):
        desk = begun([*ROWS, *["run g 0"] * 90])
        self.assertEqual(len(desk.book()), 100)
        self.no(TooMany, {"most": 100}, desk, "run g 0")
        self.no(NoLine, {}, desk, "run g 101")
        self.assertEqual(desk.say("back"), "run g 0")
        self.assertEqual(desk.say("run g 1"), "ok")

    def test_by_chance(self):
        for seed in range(260, 272):
            by, desk, model = chance(seed), Desk(), ModelBook()
            for _ in range(40):
                lot = by.random()
                if lot < 0.75:
                    call = ("do", some_deed(by, model.state()))
                    row = show_deed(call[1])
                elif lot < 0.9:
                    call = (by.choice(("back", "again")),)
                    row = call[0]
                else:
                    at = by.randint(-1, len(model.log))
                    call = ("instead", at, some_deed(by, model.state(max(at, 0))))
                    row = f"instead {at} {show_deed(call[2])}"
                try:
                    known = getattr(model, call[0])(*call[1:])
                    known = {"do": lambda: "ok", "instead": lambda: " ".join(known) or "none"}.get(call[0], lambda: show_deed(known))()
                except Refused as caught:
                    self.refused(*caught.told, desk.say, row)
                else:
                    self.assertEqual(desk.say(row), known, row)
                self.assertEqual(desk.book().log(), model.log)


class BackAgainAndInstead(Desks):
    def test_back_and_again(self):
        desk = Desk()
        self.no(Nothing, {}, desk, "back")
        self.no(Nothing, {}, desk, "again")
        for row in ROWS:
            desk.say(row)
        for row in ROWS[::-1]:
            self.assertEqual(desk.say("back"), row)
        self.no(Nothing, {}, desk, "back")
        for row in ROWS:
            self.assertEqual(desk.say("again"), row)
        self.no(Nothing, {}, desk, "again")
        self.assertEqual(asked_of(desk.book()), asked_of(begun().book()))
        desk.say("back")
        desk.say("run g 1")
        self.no(Nothing, {}, desk, "again")

    def test_a_deed_is_answered_as_it_is_told(self):
        desk = begun()
        desk.say(f"lay w 40 0 - {AND}")
        self.assertEqual(desk.say("back"), f"lay w 40 0 - {AND}")

    def test_instead(self):
        desk = begun([*ROWS, "copy h g", "run h 4"])
        for row, known in (
            ("instead 11 run h 3", "h"), ("instead 11 run h 3", "none"), ("instead 4 field g life endless 0", "g h"), ("instead 10 copy h w", "h"), ("instead 10 rule z around 2", None),
            ("instead 11 end h", "h"), ("instead 10 field h life endless 0", "none"), ("instead 7 field x life box 5 a .a./...", "b x"), ("instead 0 rule life around 2", "life"),
        ):
            if known is None:
                self.no(Broken, {"at": 11}, desk, row)
            else:
                self.assertEqual(answered(show_log(desk.book()), row), known)
                self.assertEqual(desk.say(row), known)
                self.no(Nothing, {}, desk, "again")
        self.assertEqual(desk.say("back"), "end h")

    def test_instead_refused(self):
        desk = begun()
        for at in ("10", "11", "9999999999", "-1", "-9999999999", "100"):
            self.no(Wrong, {"at": 0}, desk, f"instead {at} run g 1")
        for at in ("", "a", "01", "-0", "+1", "00", "10000000000", "-10000000000", "1.0", "0x1", " 1", "--1", "-", "None"):
            self.no(NoLine, {}, desk, f"instead {at} run g 1")
        self.no(Broken, {"at": 0}, desk, "instead 0 run g 1")
        self.no(Broken, {"at": 8}, desk, "instead 5 field w life endless 0")
        # What is no deed's row isn't answered, whatever its place.
        for row in ("back", "again", "names", "instead 0 run g 1", "run g 101", "run g", "", "none", "log", "rule life", "run g 1 "):
            self.no(NoLine, {}, desk, f"instead 0 {row}")
            self.no(NoLine, {}, desk, f"instead 99 {row}")
        for row in ("instead", "instead ", "instead 0", "instead 0 ", "instead run g 1", "instead  0 run g 1", "instead 0  run g 1"):
            self.no(NoLine, {}, desk, row)


class Asked(Desks):
    def test_names(self):
        self.answer(Desk(), "names", "none")
        self.answer(begun(), "names", "b field, g field, life rule, swapping rule, t field, turning rule, w field, wires rule")
        self.answer(begun(ROWS[:1]), "names", "life rule")

    def test_cell(self):
        desk = begun()
        for row, known in (
            ("cell g 1 0", "a"), ("cell g 0 0", "."), ("cell g 0 2", "a"), ("cell g -1000000 1000000", "."), ("cell t 0 0", "a"), ("cell t 1 0", "b"), ("cell t -1 0", "b"), ("cell t 1000000 -1000000", "a"),
            ("cell t 0 -1", "."), ("cell b 1 0", "a"), ("cell b 2 0", "."), ("cell b 3 0", "a"), ("cell b 0 -1", "a"), ("cell b -999 999", "a"),
        ):
            self.answer(desk, row, known)

    def test_picture(self):
        desk = begun()
        for row, known in (
            ("picture g 0 0 3 3", ".a./..a/aaa"), ("picture g -1 -1 4 2", "..../..a."), ("picture g 5 5 1 1", "."), ("picture t -1 -1 4 3", "..../baba/...."), ("picture b -1 0 5 3", "a.a.a/a...a/aaaaa"),
            ("picture g 1000000 -1000000 2 1", ".."), ("picture g -31 -31 32 32", "/".join(["." * 32] * 32)),
        ):
            self.answer(desk, row, known)

    def test_turn_and_many(self):
        desk = begun()
        for row, known in (("turn g", "0"), ("turn w", "9"), ("turn t", "3"), ("turn b", "5"), ("many g", "5"), ("many t", "2"), ("many b", "1")):
            self.answer(desk, row, known)
        self.answer(desk, "many w", str(len(desk.book().field("w"))))
        desk.say("field n life endless 1000000000")
        self.answer(desk, "many n", "0")
        desk.say("run n 7")
        self.answer(desk, "turn n", "1000000007")

    def test_paper(self):
        desk = begun(ROWS[:3])
        for name, of, rows, known in (
            ("g", "life", GLIDER, "moving 4 1 1"), ("s", "life", "endless 9 -7 8 aa/aa", "still 1 0 0"), ("i", "life", "endless 3 0 0 aaa", "turning 2 0 0"), ("n", "life", "endless 0", "none"),
            ("t", "turning", "endless 7 0 0 a", "turning 4 0 0"), ("e", "wires", "endless 0 5 5 a", "moving 1 1 0"), ("u", "life", "endless 0 0 0 aa./..a", "none"), ("p", "life", "torus 0 aa/aa", "none"),
        ):
            desk.say(f"field {name} {of} {rows}")
            field = desk.book().field(name)
            if field.kind() == "endless":
                paper = paper_of(desk.book().rule_of(name), field.cells(), 40)
                self.assertEqual(known, "none" if paper is None else " ".join(map(str, paper)))
            self.answer(desk, f"paper {name} 40", known)
            least = int(known.split(" ")[1]) if known != "none" else 41
            for most in (1, 2, 3, 4, 5, 39):
                self.answer(desk, f"paper {name} {most}", known if most >= least else "none")
            desk.say(f"end {name}")

    def test_paper_is_of_cells_laid_anew_at_turn_0(self):
        # At an odd turn the very cells of a rule of blocks would go on otherwise.
        desk = Desk()
        desk.say("rule r blocks 2/a . . . -> .a../. a . . -> a...")
        for turn in (0, 1):
            desk.say(f"field f r endless {turn} 0 0 a")
            known = paper_of(desk.book().rule("r"), [(0, 0, "a")], 40)
            self.answer(desk, "paper f 40", " ".join(map(str, known)))
            desk.say("end f")

    def test_paper_of_a_box_or_a_torus(self):
        desk = begun(ROWS[:1])
        for field in ("torus 0 aa../aa../..../....", "box 0 . aa/aa", "box 4 a a"):
            desk.say(f"field f life {field}")
            self.answer(desk, "paper f 40", "none")
            desk.say("end f")

    def test_paper_of_cells_as_they_must_be(self):
        desk = begun(ROWS[:2])

        def asked(cells, known, of="life", moves=()):
            field = endless(cells)
            for dx, dy in moves:
                field = field.moved(dx, dy)
            desk.say(f"field f {of} {show_field(field)}")
            self.answer(desk, "paper f 40", known)
            desk.say("end f")
        block = [(0, 0, "a"), (0, 1, "a"), (1, 0, "a"), (1, 1, "a")]
        # No two farther than 60 apart either way.
        for by, known in ((58, "still 1 0 0"), (59, "still 1 0 0"), (60, "none")):
            asked(block + [(x + by, y, sign) for x, y, sign in block], known)
            asked(block + [(x, y + by, sign) for x, y, sign in block], known)
            asked(block + [(x + by, y + by, sign) for x, y, sign in block], known)
        # At most 400: x stays for ever by the rule of wires.
        bare = [(x, y, "x") for x in range(20) for y in range(20)]
        asked(bare, "still 1 0 0", "wires")
        asked(bare + [(20, 0, "x")], "none", "wires")
        # Spots.
        asked(block, "still 1 0 0", moves=[(FAR - 1, FAR - 1)])
        asked(block, "none", moves=[(FAR, FAR - 1)])
        asked(block, "none", moves=[(FAR - 1, FAR)])
        asked(block, "still 1 0 0", moves=[(-FAR, -FAR)])
        asked(block, "none", moves=[(-FAR, 0), (-1, 0)])
        asked(block, "none", moves=[(0, -FAR), (0, -1)])
        asked([(0, 0, "x")], "still 1 0 0", "wires", moves=[(FAR, -FAR)])

    def test_reads(self):
        desk = begun()
        made = read_machine(AND)
        for turns in range(12):
            for x, y in ((0, 0), (-2, 0), (1, 2)):
                known = self.model_reads(desk.book().field("w"), AND, x, y, turns)
                self.answer(desk, f"reads w {x} {y} {turns} {AND}", known)
        self.assertEqual(made.wide(), 4)
        self.answer(desk, f"reads w 0 0 9 {AND}", "c=010")
        self.answer(desk, f"reads w 0 0 6 {AND}", "c=-")
        self.answer(desk, "reads w 0 0 9 in a/in b", "none")
        self.answer(desk, "reads w 0 0 9 in b/in a/not ab a/out b/out ab/out a", "a=0000, ab=010, b=00000")
        self.answer(desk, "reads w 0 0 5 in b/in a/not ab a/out b/out ab/out a", "a=-, ab=-, b=0")
        for name in ("t", "b"):
            self.answer(desk, f"reads {name} 0 0 9 {AND}", "none")
        # Of an endless field of whatever rule.
        self.answer(desk, "reads g 0 0 5 in a/out a", "a=000")
        self.answer(desk, "reads g -2 2 7 in a/out a", self.model_reads(desk.book().field("g"), "in a/out a", -2, 2, 7))

    def model_reads(self, field, text, x, y, turns):
        """Bit by bit, as [86] tells it."""
        made = read_machine(text)
        rows = {name: down for down, name in enumerate(made.names())}
        told = []
        for name in sorted(made.outs()):
            bits = ""
            for wave in range(1, turns - made.wide() - rows[name] + 1):
                place = x + made.wide() + (turns - made.wide() - rows[name] - wave), y + rows[name]
                bits += "1" if (*place, "a") in field.cells() else "0"
            told.append(f"{name}={bits or '-'}")
        return ", ".join(told) or "none"

    def test_reads_what_a_machine_means(self):
        by = chance(280)
        for _ in range(20):
            rows = some_machine(by, 5)
            text, fed = "/".join(" ".join(row) for row in rows), some_fed(by, rows, 20)
            desk = begun(ROWS[1:2] + ["field w wires endless 0"])
            desk.say(show_deed(("lay", "w", 3, -4, read_machine(text), fed)))
            for turns in (40, 7):
                desk.say(f"run w {turns}")
            known = meaning(read_machine(text), fed, 60)
            names = [row[1] for row in made_by(rows)]
            wide = read_machine(text).wide()
            shown_bits = {name: "".join(map(str, known[name][:max(0, 47 - wide - names.index(name))])) for name in known}
            self.answer(desk, f"reads w 3 -4 47 {text}", ", ".join(f"{name}={shown_bits[name] or '-'}" for name in sorted(known)) or "none")

    def test_log(self):
        self.answer(Desk(), "log", "")
        desk = begun()
        self.answer(desk, "log", "".join(row + "\n" for row in ROWS))
        desk.say("back")
        self.answer(desk, "log", "".join(row + "\n" for row in ROWS[:-1]))
        self.assertEqual(book_of(desk.say("log")), desk.book())


class Refusals(Desks):
    def test_unknown(self):
        desk = begun()
        for row in ("cell NAME 0 0", "picture NAME 0 0 1 1", "turn NAME", "many NAME", "paper NAME 40", f"reads NAME 0 0 9 {AND}", "paper NAME 1", "cell NAME 1000000 -1000000"):
            for name in ("nope", "life", "wires", "zzzzzzzz", "none"):
                self.no(Unknown, {"name": name}, desk, row.replace("NAME", name))
                self.no(Unknown, {"name": name}, Desk(), row.replace("NAME", name))

    def test_rows_that_are_none(self):
        desk = begun()
        for row in (
            "", " ", "-", "none", "ok", "name", "names ", " names", "names g", "Names", "names\n", "\nnames", "log ", "log 1", "back ", "back 1", "back back", "again ", "again\n", "backs", "cell", "cell g", "cell g 0",
            "cell g 0 0 0", "cell g 0 0 ", "cell  g 0 0", "cell g  0 0", " cell g 0 0", "cell g 00 0", "cell g 0 -0", "cell g 1000001 0", "cell g 0 -1000001", "cell g a 0", "cell g 0 0\n", "cell g\n0 0", "cell G 0 0",
            "cell 0 0 g", "cell g 0.0 0", "cell g +1 0", "cell g 1e3 0", "cell g --1 0", "cell g - 0", "cell abcdefghi 0 0", "cell g1 0 0", "picture g 0 0 3", "picture g 0 0 0 1", "picture g 0 0 1 0", "picture g 0 0 33 1",
            "picture g 0 0 1 33", "picture g 0 0 -1 1", "picture g 0 0 1 01", "picture g 1000001 0 1 1", "picture g 0 -1000001 1 1", "picture g 0 0 1 1 1", "picture g 0 0", "picture 0 0 1 1", "turn", "turn ", "turn g ", "turn g g",
            "turn 0", "turn G", "turn  g", "many", "many g g", "many 5", "many g\n", "paper", "paper g", "paper g ", "paper g 0", "paper g 41", "paper g -1", "paper g 040", "paper g 40 1", "paper g a", "paper 40 g", "paper g 40 ",
            "reads", "reads w 0 0 9", "reads w 0 0 9 ", "reads w 0 0 in a", "reads w 0 0 101 in a", "reads w 0 0 -1 in a", "reads w 0 0 09 in a", "reads w 1000001 0 9 in a", "reads w 0 -1000001 9 in a", "reads w 0 0 9  in a",
            "reads w 0 0 9 in a ", "reads w 0 0 9 in a/", "reads w 0 0 9 out a", "reads w 0 0 9 in a\n", "reads w 0 0 9 - in a", "reads w 0 0 9 a=1 in a", "reads 0 0 9 in a", "reads w 0 0 9 in a/out a/out a", "reads W 0 0 9 in a",
            "names\nnames", "log\nlog", "cell g 0 0\ncell g 0 0", "names names", "run g 1\nrun g 1", "run g 1\n", "\nrun g 1", "run g 101", "run g", "run g -1", "run G 1", "put g 0 0 aa", "end", "end g ", "rule", "field",
            "book", "do run g 1", "say names", "field g", "rule life", "names,", "cell,g,0,0", "cell g 10000000000 0",
        ):
            self.no(NoLine, {}, desk, row)

    def test_no_line_ahead_of_all(self):
        for desk in (Desk(), begun([*ROWS, *["run g 0"] * 90])):
            for row in ("cell nope 0", "paper nope 41", "picture nope 0 0 0 0", "run nope 101", "instead 999 none", "reads nope 0 0 9 out a", "back 1", "again 1"):
                self.no(NoLine, {}, desk, row)

    def test_things_that_are_no_texts(self):
        for desk in (Desk(), begun()):
            for thing in whatever() + [("names",), ["names"], b"names", ("run", "g", 1), ["run g 1"], {"names": 0}, 0, None]:
                known = show_log(desk.book())
                self.refused(NoLine, {}, desk.say, thing)
                self.refused(NoLine, {}, answered, known, thing)
                self.assertEqual(show_log(desk.book()), known, shown(thing))

    def test_just_within_the_bounds(self):
        desk = begun()
        for row in ("cell g 1000000 -1000000", "cell g -1000000 1000000", "picture g 1000000 1000000 32 32", "picture g -1000000 -1000000 1 1", "paper g 1", "paper g 40", "reads g 1000000 -1000000 0 in a",
                    "reads g -1000000 1000000 100 in a/out a", "instead 9 run w 0"):
            desk.say(row)

    def test_misspelled(self):
        by = chance(281)
        desk = begun()
        text, count = show_log(desk.book()), 0
        for row in ("names", "cell g 1 0", "picture g -1 0 3 3", "turn g", "many t", "paper g 40", f"reads w 0 0 9 {AND}", "log", "back", "again", "instead 9 run w 8"):
            for other in misspelled(by, row, " -0139/\nabgtw", 60):
                count += self.right_or_refused(text, other)
        self.assertGreater(count, 50)

    def right_or_refused(self, text, row):
        """A row is refused with NoLine, or it is one, by its words."""
        try:
            answered(text, row)
        except NoLine as caught:
            self.assertEqual(vars(caught), {})
            self.assertFalse(self.is_row(row), row)
            return False
        except CellError:
            pass
        self.assertTrue(self.is_row(row), row)
        return True

    def is_row(self, row):
        words = row.split(" ")
        try:
            read_deed(row)
            return True
        except NoText:
            pass
        if row in ("names", "log", "back", "again"):
            return True

        def is_name(text):
            return 1 <= len(text) <= 8 and all("a" <= sign <= "z" for sign in text)

        def is_number(text, low, high):
            plain = text[1:] if text[:1] == "-" else text
            right = plain != "" and all("0" <= sign <= "9" for sign in plain) and (plain == "0" or plain[0] != "0") and text != "-0"
            return right and low <= int(text) <= high

        def is_text(read, text):
            try:
                read(text)
                return True
            except NoText:
                return False
        spot, size = (-FAR, FAR), (1, 32)
        bounds = {"cell": (spot, spot), "picture": (spot, spot, size, size), "turn": (), "many": (), "paper": ((1, 40),)}.get(words[0])
        if bounds is not None:
            return len(words) == 2 + len(bounds) and is_name(words[1]) and all(is_number(text, *bound) for text, bound in zip(words[2:], bounds))
        if words[0] == "reads" and len(words) > 5:
            right = is_name(words[1]) and is_number(words[2], *spot) and is_number(words[3], *spot) and is_number(words[4], 0, 100)
            return right and is_text(read_machine, " ".join(words[5:]))
        if words[0] == "instead" and len(words) > 2:
            return is_number(words[1], -9999999999, 9999999999) and is_text(read_deed, " ".join(words[2:]))
        return False


class Kept(Desks):
    def test_its_book_is_a_copied_one(self):
        desk = begun()
        book = desk.book()
        self.assertIs(type(book), Book)
        for deed in (("end", "g"), ("run", "w", 3)):
            book.do(deed)
        book.back()
        self.assertEqual(asked_of(desk.book()), asked_of(begun().book()))
        other = desk.book()
        desk.say("run g 4")
        desk.say("back")
        desk.say("end b")
        self.assertEqual(asked_of(other), asked_of(begun().book()))
        self.assertEqual(asked_of(Desk().book()), asked_of(Book()))
        # Also in what can be done again.
        desk = begun()
        desk.say("back")
        self.assertEqual(desk.book().again(), read_deed(ROWS[-1]))
        self.assertEqual(desk.book().again(), read_deed(ROWS[-1]))
        self.assertEqual(desk.say("again"), ROWS[-1])

    def test_two_desks_know_nothing_of_each_other(self):
        one, other = begun(), Desk()
        other.say("rule life blocks 2")
        self.assertEqual(one.say("names"), begun().say("names"))
        self.assertEqual(other.say("names"), "life rule")

    def test_what_it_tells_is_what_the_field_is(self):
        desk = begun()
        book = desk.book()
        for name in "gwtb":
            field = book.field(name)
            self.assertEqual(desk.say(f"turn {name}"), str(field.turn()))
            for x, y, sign in field.cells():
                self.assertEqual(desk.say(f"cell {name} {x} {y}"), sign)
        made = read_machine(AND)
        self.assertEqual(book.field("w"), run(WIRES, lay(endless([]), made, 0, 0, fed={"a": [0, 1, 1], "b": [1, 1]}), 9))

    def test_all_is_defined_in_the_files(self):
        self.assertEqual(Desk.__module__, "cellscript.desk")
        self.assertEqual(end_file.answered.__module__, "cellscript.end")
        for name in ("say", "book"):
            self.assertIn(name, vars(desk_file.Desk))


class End(Desks):
    def test_it_keeps_nothing(self):
        text = "".join(row + "\n" for row in ROWS)
        rows = ["back", "again", "run g 4", "names", "instead 4 field g life endless 0", "end g", "many g", "paper g 40", "run g 101", "again", "log", f"lay w 50 0 - {AND}"]
        for _ in range(3):
            told = []
            for row in rows:
                try:
                    told.append(answered(text, row))
                except CellError as caught:
                    told.append((type(caught), vars(caught)))
            self.assertEqual(told, [
                "run w 9", (Nothing, {}), "ok", "b field, g field, life rule, swapping rule, t field, turning rule, w field, wires rule", "g", "ok", "5", "moving 4 1 1", (NoLine, {}), (Nothing, {}), text, "ok",
            ])
            rows.reverse()
            for row, known in zip(rows, told[::-1]):
                if isinstance(known, str):
                    self.assertEqual(answered(text, row), known)
            rows.reverse()

    def test_no_log_ahead_of_all(self):
        text = "".join(row + "\n" for row in ROWS)
        for row in ("names", "none", "", None, "back", "run nope 1", "log", 7):
            for spoilt, at in (("none\n", 0), (text + "none\n", 10), (text + "x", 10), (text + "end life\n", 10), (text[:-1], 9), ("\n", 0), (text.replace("field g", "field  g"), 4), ("end f\n", 0),
                               (text.replace("field g life", "field g nope"), 4)):
                self.refused(NoLog, {"at": at}, answered, spoilt, row)

    def test_of_a_new_book(self):
        self.assertEqual(answered("", "names"), "none")
        self.assertEqual(answered("", "log"), "")
        self.assertEqual(answered("", "rule r around 2"), "ok")
        self.refused(Nothing, {}, answered, "", "back")
        self.refused(Nothing, {}, answered, "", "again")
        self.refused(Wrong, {"at": 0}, answered, "", "instead 0 end f")
        self.refused(NoLine, {}, answered, "", "")

    def test_as_a_desk_to_which_all_was_told(self):
        by = chance(290)
        for seed in range(291, 297):
            by, model, desk = chance(seed), ModelBook(), Desk()
            while len(model.log) < 15:
                deed = some_deed(by, model.state())
                try:
                    model.do(deed)
                except Refused:
                    continue
                desk.say(show_deed(deed))
            text = desk.say("log")
            rows = ["names", "back", "log", *[f"{word} {name}" for name, _ in desk.book().names() for word in ("turn", "many")]]
            rows += [f"cell {name} {by.randint(-3, 5)} {by.randint(-3, 5)}" for name, _ in desk.book().names()]
            rows += [f"instead {by.randint(0, 14)} {show_deed(some_deed(by, model.state()))}" for _ in range(6)]
            for row in rows:
                other = begun(text.split("\n")[:-1])
                try:
                    known = None, other.say(row)
                except CellError as caught:
                    known = type(caught), vars(caught)
                try:
                    told = None, answered(text, row)
                except CellError as caught:
                    told = type(caught), vars(caught)
                self.assertEqual(told, known)


if __name__ == "__main__":
    unittest.main()
