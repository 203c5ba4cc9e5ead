"""[90] to [93], [11], and of [3] and [4] what is theirs: books, their deeds, how they are refused, taken back, done otherwise."""

import unittest

from cellscript import books as file
from cellscript.books import Book
from cellscript.errors import (
    Alien, Broken, CellError, Early, Filled, Merging, NoCell, NoDeed, Nothing, NoWay, Odd, Restless, Strange, Taken, TooFar, TooMany, Unknown,
    Used, Wrong,
)
from cellscript.fields import Field, box, endless, torus
from cellscript.laying import lay
from cellscript.logs import book_of, show_log
from cellscript.machine import Machine, read_machine
from cellscript.plain import run
from cellscript.rules import Rule
from cellscript.undo import merging, undone
from cellscript.wires import wires
from tests.model_books import (
    FADING, GROWING, LIFE, MERGING, RULES, SWAPPING, TURNING, WIDE_BLOCKS, WIRES, ModelBook, Refused, all_again, asked_of,
    some_book_field, some_deed,
)
from tests.support import (
    FAR, Hostile, Like, Told, chance, nested, no_numbers, no_pieces, no_signs, no_spots, no_ways, shown, whatever,
)

GLIDER = endless([(1, 0, "a"), (2, 1, "a"), (0, 2, "a"), (1, 2, "a"), (2, 2, "a")])
BARE = endless([])
AND = read_machine("in a/in b/and c a b/out c")
# A right deed of each sort; by a book of begun() each can be done.
RIGHT = [
    ("rule", "new", LIFE), ("field", "new", "life", GLIDER), ("put", "f", 3, -4, "a"), ("place", "f", -1, 0, 5, ["a_", ".a"]), ("run", "f", 3), ("undo", "t", 2),
    ("lay", "w", 0, 0, AND, {"a": [0, 1, 1]}), ("copy", "new", "f"), ("end", "g"),
]
WORDS = ("rule", "field", "put", "place", "run", "undo", "lay", "copy", "end")


def begun():
    """A book with rules and fields of several sorts."""
    book = Book()
    for deed in (
        ("rule", "life", LIFE), ("rule", "turning", TURNING), ("rule", "wires", WIRES), ("field", "f", "life", GLIDER), ("field", "g", "life", BARE),
        ("field", "t", "turning", endless([(0, 0, "a"), (3, 1, "a")], turn=5)), ("field", "w", "wires", BARE),
    ):
        book.do(deed)
    return book


def no_words():
    return [thing for thing in whatever() if not (type(thing) is str and 1 <= len(thing) <= 8 and set(thing) <= set("abcdefghijklmnopqrstuvwxyz"))] + [
        "abcdefghi", "A", "a b", "a1", "a_", ["a"], ("a",), b"a", "",
    ]


def others(kind):
    return [thing for thing in whatever() if type(thing) is not kind]


def no_feds():
    """Things that are nothing fed to a machine with the ins a and b."""
    things = [thing for thing in whatever() if not (type(thing) is dict and thing == {})]
    return things + [
        {"a": [True]}, {"a": [0, 2]}, {"a": [-1]}, {"a": [0] * 61}, {"a": (0, 1)}, {"a": "01"}, {"a": None}, {"a": 1}, {"a": {0: 1}}, {"c": [1]}, {"c": []}, {"z": []},
        {"a": [1], "c": []}, {"a": [1], "z": [1]}, {1: [1]}, {"A": [1]}, {"": [1]}, {("a",): [1]}, {None: []}, {"a": ["1"]}, {"a": [[1]]}, {"a": [None]}, {b"a": [1]},
        [("a", [1])], [["a", [1]]], "a=1", "-", ("a", [1]), {"a": [Hostile()]}, {"a": [Like()]}, {"a": Hostile()}, {"a": [0, 1], "b": [0, 1, 9]},
    ]


# What may not stand in the parts of the right deeds, behind the word.
def wrong_parts():
    words, spots = no_words(), no_spots()
    machines = others(Machine) + ["in a", AND.rows(), [("in", "a")]]
    turns = no_numbers(0, 100)
    return {
        "rule": [words, others(Rule) + ["around 2"]], "field": [words, words, others(Field) + ["endless 0", [(0, 0, "a")]]], "put": [words, spots, spots, no_signs()],
        "place": [words, spots, spots, no_ways(), no_pieces()], "run": [words, turns], "undo": [words, turns], "lay": [words, spots, spots, machines, no_feds()],
        "copy": [words, words], "end": [words],
    }


class Books(Told):
    """What the tests of books share."""

    def refused_here(self, error, kept, book, deed):
        """A deed is refused so, and the book is as it was, also in what can be done again."""
        known = asked_of(book)
        other = book.copied()
        self.refused(error, kept, book.do, deed)
        self.assertEqual(asked_of(book), known)
        self.assertEqual(all_again(book.copied()), all_again(other))

    def full(self, many=100):
        """A book with so many deeds."""
        book = begun()
        while len(book) < many:
            book.do(("put", "f", 0, 0, "a" if len(book) % 2 else "."))
        return book


class Deeds(Books):
    def test_each_sort(self):
        for deed in RIGHT:
            book = begun()
            self.assertIsNone(book.do(deed))
            self.assertEqual(book.log()[-1], deed)
            self.assertEqual(len(book), 8)
        self.assertEqual([deed[0] for deed in RIGHT], list(WORDS))

    def test_what_becomes_of_the_field(self):
        book = begun()
        f, t, w = book.field("f"), book.field("t"), book.field("w")
        for deed, name, known in (
            (("put", "f", 3, -4, "a"), "f", f.put(3, -4, "a")), (("put", "f", 1, 2, "."), "f", f.put(1, 2, ".")),
            (("place", "f", -1, 0, 5, ["a_", ".a"]), "f", f.placed(["a_", ".a"], -1, 0, way=5)), (("place", "f", -1, 0, 0, ["a_", ".a"]), "f", f.placed(["a_", ".a"], -1, 0)),
            (("run", "f", 3), "f", run(LIFE, f, 3)), (("run", "f", 0), "f", f), (("run", "f", 98), "f", run(LIFE, f, 98)), (("run", "t", 7), "t", run(TURNING, t, 7)),
            (("undo", "t", 2), "t", undone(TURNING, t, 2)), (("undo", "t", 0), "t", t), (("undo", "t", 5), "t", undone(TURNING, t, 5)),
            (("lay", "w", 5, -6, AND, {"a": [0, 1, 1]}), "w", lay(w, AND, 5, -6, fed={"a": [0, 1, 1]})), (("lay", "w", FAR, -FAR, AND, {}), "w", lay(w, AND, FAR, -FAR)),
            (("lay", "w", 0, 0, AND, {"a": [], "b": [1]}), "w", lay(w, AND, 0, 0, fed={"b": [1]})),
        ):
            book = begun()
            before = asked_of(book)
            book.do(deed)
            self.assertEqual(book.field(name), known)
            self.assertEqual(book.rule_of(name), dict(f=LIFE, t=TURNING, w=WIRES)[name])
            self.assertEqual(book.names(), before[0])
            for other in {"f", "g", "t", "w"} - {name}:
                self.assertEqual(book.field(other), begun().field(other))

    def test_rules_and_fields_come_and_go(self):
        book = Book()
        self.assertEqual((book.names(), book.log(), len(book)), ([], [], 0))
        book.do(("rule", "r", SWAPPING))
        book.do(("field", "f", "r", torus(["ab", ".a"], turn=3)))
        book.do(("field", "b", "r", box(["a"], "b")))
        book.do(("copy", "c", "f"))
        self.assertEqual(book.names(), [("b", "field"), ("c", "field"), ("f", "field"), ("r", "rule")])
        self.assertEqual((book.field("c"), book.rule_of("c")), (torus(["ab", ".a"], turn=3), SWAPPING))
        # A copy goes on by itself.
        book.do(("run", "c", 1))
        self.assertEqual(book.field("f"), torus(["ab", ".a"], turn=3))
        self.assertEqual(book.field("c"), run(SWAPPING, torus(["ab", ".a"], turn=3), 1))
        for name in ("f", "b"):
            book.do(("end", name))
        self.assertEqual(book.names(), [("c", "field"), ("r", "rule")])
        book.do(("end", "c"))
        book.do(("end", "r"))
        self.assertEqual(book.names(), [])
        # Names that have gone are free, for the other sort too.
        book.do(("rule", "f", LIFE))
        book.do(("field", "r", "f", BARE))
        self.assertEqual((book.rule("f"), book.field("r"), book.rule_of("r")), (LIFE, BARE, LIFE))

    def test_eight_of_each(self):
        book = Book()
        for name in "abcdefgh":
            book.do(("rule", name, LIFE))
            book.do(("field", name * 2, "a", BARE))
        self.assertEqual(len(book.names()), 16)
        self.refused_here(TooMany, {"most": 8}, book, ("rule", "z", LIFE))
        self.refused_here(TooMany, {"most": 8}, book, ("field", "z", "a", BARE))
        self.refused_here(TooMany, {"most": 8}, book, ("copy", "z", "aa"))
        book.do(("end", "bb"))
        self.refused_here(TooMany, {"most": 8}, book, ("rule", "z", LIFE))
        book.do(("copy", "z", "aa"))
        self.refused_here(TooMany, {"most": 8}, book, ("field", "y", "a", BARE))
        book.do(("end", "h"))
        book.do(("rule", "y", WIRES))
        self.assertEqual(len(book.names()), 16)

    def test_any_words_are_names(self):
        book = Book()
        for name in ("rule", "field", "none", "end", "abcdefgh", "z", "names", "ok"):
            book.do(("rule", name, LIFE))
        book.do(("field", "put", "rule", BARE))
        self.assertEqual(book.rule_of("put"), LIFE)
        self.refused_here(Unknown, {"name": "rule"}, book, ("run", "rule", 1))

    def test_what_is_fed_without_bits_is_left_out(self):
        book = begun()
        book.do(("lay", "w", 0, 0, AND, {"b": [], "a": [0, 0]}))
        self.assertEqual(book.log()[-1], ("lay", "w", 0, 0, AND, {"a": [0, 0]}))
        self.assertEqual(book.back()[5], {"a": [0, 0]})
        self.assertEqual(book.again()[5], {"a": [0, 0]})
        self.assertEqual(book.instead(7, ("lay", "w", 0, 0, AND, {"a": [], "b": []})), [])
        self.assertEqual(book.log()[-1], ("lay", "w", 0, 0, AND, {}))
        other = begun()
        other.do(("lay", "w", 0, 0, AND, {}))
        self.assertEqual(book, other)


class NoDeeds(Books):
    def test_things_that_are_none(self):
        for book in (Book(), begun()):
            for thing in whatever() + [Book(), begun(), "run f 3", ["run", "f", 3], {"run": ("f", 3)}, ("run", "f")]:
                self.refused(NoDeed, {}, book.do, thing)
            self.assertEqual(asked_of(book), asked_of(Book() if len(book) == 0 else begun()))

    def test_other_words(self):
        book = begun()
        for word in ("", "Run", "runs", "back", "again", "instead", "names", "run ", "run\n", None, 0, b"run", ("run",), ["run"], Hostile(), Like(), "machine", "turn"):
            for rest in ((), ("f",), ("f", 3), ("f", 1, 1, "a"), ("f", "life", BARE)):
                self.refused(NoDeed, {}, book.do, (word, *rest))

    def test_a_part_more_or_less(self):
        book = begun()
        for deed in RIGHT:
            for at in range(len(deed)):
                self.refused(NoDeed, {}, book.do, deed[:at])
                self.refused(NoDeed, {}, book.do, deed[:at] + deed[at + 1:])
                self.refused(NoDeed, {}, book.do, deed[:at] + deed[at:at + 1] + deed[at:])
            for thing in (None, deed[-1], "a", 0, ()):
                self.refused(NoDeed, {}, book.do, (*deed, thing))
            self.refused(NoDeed, {}, book.do, list(deed))
            self.refused(NoDeed, {}, book.do, (deed,))
        self.assertEqual(book, begun())

    def test_parts_of_other_kinds(self):
        book, wrong = begun(), wrong_parts()
        for deed in RIGHT:
            for at, things in enumerate(wrong[deed[0]], 1):
                for thing in things:
                    spoilt = (*deed[:at], thing, *deed[at + 1:])
                    with self.subTest(shown(spoilt[:4])):
                        self.refused(NoDeed, {}, book.do, spoilt)
                    # What is none is no deed, whether its names are there or not.
                    self.refused(NoDeed, {}, Book().do, spoilt)
        self.assertEqual(asked_of(book), asked_of(begun()))

    def test_just_within_and_beyond_the_bounds(self):
        for deed, right in (
            (("put", "f", FAR, 0, "a"), TooFar), (("put", "f", FAR + 1, 0, "a"), NoDeed), (("put", "f", 0, -FAR - 1, "a"), NoDeed), (("put", "f", 0, -FAR, "z"), TooFar),
            (("place", "f", FAR, FAR, 7, ["a"]), TooFar), (("place", "f", FAR + 1, 0, 7, ["a"]), NoDeed), (("place", "f", 0, 0, 8, ["a"]), NoDeed), (("place", "f", 0, 0, -1, ["a"]), NoDeed),
            (("run", "f", 100), TooFar), (("run", "f", 101), NoDeed), (("run", "f", -1), NoDeed), (("run", "f", True), NoDeed), (("undo", "t", 101), NoDeed), (("undo", "t", 100), TooFar),
            (("undo", "t", False), NoDeed), (("lay", "w", FAR + 1, 0, AND, {}), NoDeed), (("lay", "w", 0, -FAR - 1, AND, {}), NoDeed), (("put", "f", True, 0, "a"), NoDeed),
            (("place", "f", 0, 0, True, ["a"]), NoDeed), (("lay", "w", 0, False, AND, {}), NoDeed), (("place", "f", 0, 0, 0, ["a" * 33]), NoDeed), (("place", "f", 0, 0, 0, []), NoDeed),
        ):
            self.refused(right, {} if right is NoDeed else {"most": 200}, begun().do, deed)
        book = begun()
        for deed in (("put", "f", 199, 0, "a"), ("place", "f", 0, 0, 7, ["_" * 32] * 32), ("lay", "w", FAR, FAR, AND, {"a": [0] * 60, "b": [1] * 60}), ("run", "g", 100)):
            book.do(deed)

    def test_ten_thousand_parts_and_fifty_within_one_another(self):
        book = begun()
        for thing in (("run",) * 10000, ("run", "f") + (3,) * 9000, nested(50), nested(50, lambda thing: ("run", thing)), nested(50, lambda thing: ("run", "f", thing)),
                      ("place", "f", 0, 0, 0, ["a"] * 9000), ("place", "f", 0, 0, 0, nested(45)), ("lay", "w", 0, 0, AND, {"a": [0] * 9000}),
                      ("lay", "w", 0, 0, AND, {str(at): [] for at in range(4000)}), ("lay", "w", 0, 0, AND, nested(45, lambda thing: {"a": thing})), ("put", "f", 0, 0, "a" * 9000),
                      ("put", "f", 0, 0, nested(45)), ("copy", "new", nested(45, lambda thing: (thing,))), ("end", nested(48)), ("rule", "new", nested(45, lambda thing: {"a": thing}))):
            self.refused(NoDeed, {}, book.do, thing)
        self.assertEqual(book, begun())


class Due(Books):
    """The refusals of [91], in their order: each alone, and two or three due at once."""

    def test_no_deed_ahead_of_all(self):
        full = self.full()
        for deed in (None, ("run", "nope"), ("run", "f", 101), ("rule", "life", None)):
            self.refused_here(NoDeed, {}, full, deed)

    def test_a_log_of_100(self):
        self.assertEqual(len(self.full(99)), 99)
        book = self.full(99)
        book.do(("run", "f", 1))
        # Ahead of all that would be refused else.
        for deed in RIGHT + [("run", "nope", 1), ("rule", "life", LIFE), ("end", "life"), ("lay", "f", 0, 0, AND, {}), ("put", "f", FAR, 0, "a"), ("undo", "f", 1), ("field", "f", "nope", BARE)]:
            self.refused_here(TooMany, {"most": 100}, book, deed)
        book.back()
        book.do(("run", "f", 2))
        self.assertEqual(len(book), 100)
        self.refused_here(TooMany, {"most": 100}, book, ("run", "f", 2))

    def test_unknown(self):
        book = begun()
        for deed, name in (
            (("field", "new", "nope", BARE), "nope"), (("field", "new", "f", BARE), "f"), (("copy", "new", "nope"), "nope"), (("copy", "new", "life"), "life"), (("put", "nope", 0, 0, "a"), "nope"),
            (("put", "life", 0, 0, "a"), "life"), (("place", "nope", 0, 0, 0, ["a"]), "nope"), (("place", "life", 0, 0, 0, ["a"]), "life"), (("run", "nope", 0), "nope"), (("run", "life", 0), "life"),
            (("undo", "nope", 1), "nope"), (("undo", "life", 1), "life"), (("lay", "nope", 0, 0, AND, {}), "nope"), (("lay", "wires", 0, 0, AND, {}), "wires"), (("end", "nope"), "nope"),
            (("field", "new", "new", BARE), "new"), (("copy", "new", "new"), "new"),
            # Ahead of a name that is taken.
            (("field", "f", "nope", BARE), "nope"), (("field", "life", "f", BARE), "f"), (("field", "f", "f", BARE), "f"), (("copy", "f", "nope"), "nope"), (("copy", "f", "life"), "life"),
            # And of what the deed itself is refused with.
            (("put", "nope", FAR, 0, "z"), "nope"), (("run", "life", 100), "life"), (("field", "new", "nope", endless([(0, 0, "z")])), "nope"), (("lay", "nope", FAR, 0, AND, {}), "nope"),
        ):
            self.refused_here(Unknown, {"name": name}, book, deed)
        for deed in RIGHT:
            if deed[0] != "rule":
                name = deed[2] if deed[0] in ("field", "copy") else deed[1]
                self.refused(Unknown, {"name": name}, Book().do, deed)

    def test_taken(self):
        book = begun()
        for deed, name in (
            (("rule", "life", LIFE), "life"), (("rule", "f", LIFE), "f"), (("field", "f", "life", GLIDER), "f"), (("field", "life", "life", BARE), "life"), (("copy", "f", "f"), "f"),
            (("copy", "g", "f"), "g"), (("copy", "life", "f"), "life"),
            # Ahead of what a run would be refused with.
            (("field", "f", "life", endless([(0, 0, "z")])), "f"), (("field", "g", "turning", torus(["a"])), "g"),
        ):
            self.refused_here(Taken, {"name": name}, book, deed)

    def test_taken_ahead_of_too_many(self):
        book = Book()
        for name in "abcdefgh":
            book.do(("rule", name, LIFE))
            book.do(("field", name * 2, "a", BARE))
        for deed, name in ((("rule", "c", LIFE), "c"), (("rule", "cc", LIFE), "cc"), (("field", "cc", "a", BARE), "cc"), (("field", "c", "a", BARE), "c"), (("copy", "cc", "aa"), "cc"), (("copy", "c", "aa"), "c")):
            self.refused_here(Taken, {"name": name}, book, deed)
        for deed, name in ((("field", "z", "y", BARE), "y"), (("copy", "z", "a"), "a"), (("field", "cc", "y", BARE), "y")):
            self.refused_here(Unknown, {"name": name}, book, deed)
        # Too many ahead of what the field is refused with.
        self.refused_here(TooMany, {"most": 8}, book, ("field", "z", "a", endless([(0, 0, "z")])))

    def test_too_many_of_their_own_sort_alone(self):
        book = Book()
        book.do(("rule", "r", LIFE))
        for name in "abcdefgh":
            book.do(("field", name, "r", BARE))
        self.refused_here(TooMany, {"most": 8}, book, ("field", "z", "r", BARE))
        self.refused_here(TooMany, {"most": 8}, book, ("copy", "z", "a"))
        for name in "stuvwxy":
            book.do(("rule", name, LIFE))
        self.refused_here(TooMany, {"most": 8}, book, ("rule", "z", LIFE))

    def test_used(self):
        book = Book()
        book.do(("rule", "r", LIFE))
        book.do(("rule", "a", LIFE))
        for name in ("zb", "b", "ba", "zz"):
            book.do(("field", name, "r", BARE))
        book.do(("field", "aa", "a", BARE))
        # The first one as names go, not as they were made, nor one of another rule that is equal.
        for name in ("b", "ba", "zb", "zz"):
            self.refused_here(Used, {"name": name}, book, ("end", "r"))
            self.refused_here(Used, {"name": "aa"}, book, ("end", "a"))
            book.do(("end", name))
        book.do(("end", "r"))
        self.assertEqual(book.names(), [("a", "rule"), ("aa", "field")])
        book = begun()
        book.do(("copy", "e", "f"))
        self.refused_here(Used, {"name": "e"}, book, ("end", "life"))

    def test_alien(self):
        book = begun()
        for name, made in (("almost", Rule("around", 25, ("n", "w"), wires().rows())), ("more", Rule("around", 26, ("w", "n"), wires().rows())), ("less", Rule("around", 25, ("w", "n"), wires().rows()[:-1])),
                           ("alike", Rule("around", 25, ("w", "n"), wires().rows() + [("x", (), "x")]))):
            book.do(("rule", name, made))
            book.do(("field", "x" + name, name, BARE))
            self.refused_here(Alien, {"name": "x" + name}, book, ("lay", "x" + name, 0, 0, AND, {}))
            book.do(("end", "x" + name))
            book.do(("end", name))
        self.refused_here(Alien, {"name": "f"}, book, ("lay", "f", 50, 50, AND, {}))
        # Ahead of what it is refused with on the field.
        self.refused_here(Alien, {"name": "f"}, book, ("lay", "f", 0, 0, AND, {}))
        self.refused_here(Alien, {"name": "f"}, book, ("lay", "f", FAR, 0, AND, {}))
        # A rule that is equal is no other one, whatever its name.
        book.do(("rule", "same", Rule("around", 25, ("w", "n"), wires().rows())))
        book.do(("field", "s", "same", BARE))
        book.do(("lay", "s", 0, 0, AND, {}))
        self.assertEqual(book.field("s"), lay(BARE, AND, 0, 0))

    def test_as_the_deed_itself(self):
        book = Book()
        for name, rule in (("life", LIFE), ("turning", TURNING), ("swapping", SWAPPING), ("fading", FADING), ("merging", MERGING), ("wide", WIDE_BLOCKS), ("wires", WIRES)):
            book.do(("rule", name, rule))
        for name, of, field in (("f", "life", GLIDER), ("t", "turning", endless([(0, 0, "a")], turn=4)), ("w", "wires", endless([(0, 0, "x"), (150, 3, "b")])), ("b", "life", box(["..."] * 2, "a", turn=9)),
                                ("s", "swapping", torus(["ab"] * 2, turn=1))):
            book.do(("field", name, of, field))
        for deed, error, kept in (
            (("put", "f", 200, 0, "a"), TooFar, {"most": 200}), (("put", "b", 3, 0, "a"), NoCell, {"x": 3, "y": 0}), (("put", "b", -1, 5, "."), NoCell, {"x": -1, "y": 5}),
            (("place", "b", 1, 0, 0, ["aaa"]), NoCell, {"x": 3, "y": 0}), (("place", "b", -1, -1, 0, ["__", "aa"]), NoCell, {"x": -1, "y": 0}), (("place", "f", 190, 0, 1, ["a"] * 12), TooFar, {"most": 200}),
            (("run", "f", 99), TooFar, {"most": 200}), (("run", "w", 25), TooFar, {"most": 200}), (("undo", "f", 0), NoWay, {}), (("undo", "b", 1), NoWay, {}), (("undo", "w", 0), TooMany, {"most": 4}),
            (("undo", "t", 5), Early, {"now": 4}), (("undo", "t", 100), TooFar, {"most": 200}), (("undo", "s", 2), Early, {"now": 1}), (("lay", "w", 0, 0, AND, {}), Filled, {"x": 0, "y": 0}),
            (("lay", "w", 2, 0, AND, {"a": [1, 1]}), Filled, {"x": 0, "y": 0}), (("lay", "w", 148, 2, AND, {}), Filled, {"x": 150, "y": 3}), (("lay", "w", -60, 0, AND, {}), TooFar, {"most": 200}),
        ):
            self.refused_here(error, kept, book, deed)
        for name, of, error, kept in (("m", "merging", Merging, {"paper": merging(MERGING)}), ("d", "fading", Merging, {"paper": merging(FADING)}), ("v", "wide", TooMany, {"most": 4})):
            book.do(("field", name, of, endless([], turn=3)))
            for turns in (0, 1, 4, 100):
                self.refused_here(error, kept, book, ("undo", name, turns))

    def test_then_as_a_run_of_no_turns(self):
        book = begun()
        book.do(("rule", "growing", GROWING))
        book.do(("rule", "swapping", SWAPPING))
        book.do(("field", "b", "life", box(["..."] * 2, "a")))
        for deed, error, kept in (
            (("field", "new", "life", endless([(0, 0, "c"), (1, 1, "b")])), Strange, {"sign": "b"}), (("field", "new", "life", box(["a"], "y")), Strange, {"sign": "y"}),
            (("field", "new", "growing", BARE), Restless, {}), (("field", "new", "turning", torus(["..."] * 2)), Odd, {}), (("field", "new", "swapping", torus([".."] * 3)), Odd, {}),
            (("put", "f", 0, 0, "b"), Strange, {"sign": "b"}), (("put", "b", 0, 0, "z"), Strange, {"sign": "z"}), (("put", "w", 0, 0, "y"), Strange, {"sign": "y"}),
            (("place", "f", 0, 0, 0, ["zba"]), Strange, {"sign": "b"}), (("place", "b", 0, 0, 3, ["_z"]), Strange, {"sign": "z"}),
            # As the deed itself goes ahead.
            (("put", "b", 3, 0, "z"), NoCell, {"x": 3, "y": 0}), (("put", "f", FAR, 0, "z"), TooFar, {"most": 200}), (("place", "b", 2, 1, 0, ["zz"]), NoCell, {"x": 3, "y": 1}),
        ):
            self.refused_here(error, kept, book, deed)
        # Of no turns: a frame 200 wide is none too far.
        wide = endless([(0, 0, "a"), (199, 3, "a")])
        for deed in (("field", "wide", "life", wide), ("put", "wide", 5, -9, "a"), ("place", "wide", 0, 190, 0, ["a"]), ("run", "wide", 0)):
            book.do(deed)
        self.refused_here(TooFar, {"most": 200}, book, ("run", "wide", 1))
        book.do(("place", "f", 0, 0, 0, ["__", "__"]))
        book.do(("field", "new", "growing", torus(["...", ".a."])))
        book.do(("field", "other", "life", torus(["..."])))

    def test_at_one_go_the_same_refusal(self):
        # A run that would be refused at one go may be let by in parts.
        book = begun()
        self.refused_here(TooFar, {"most": 200}, book, ("run", "f", 99))
        for turns in (50, 49):
            book.do(("run", "f", turns))
        self.assertEqual(book.field("f").turn(), 99)


class BackAndAgain(Books):
    def test_nothing(self):
        book = Book()
        self.refused(Nothing, {}, book.back)
        self.refused(Nothing, {}, book.again)
        book.do(RIGHT[0])
        self.refused(Nothing, {}, book.again)
        self.assertEqual(book.back(), RIGHT[0])
        self.refused(Nothing, {}, book.back)
        self.assertEqual(book.again(), RIGHT[0])
        self.refused(Nothing, {}, book.again)
        self.assertEqual(len(book), 1)

    def test_there_and_back(self):
        book = begun()
        states = [asked_of(begun())]
        for deed in RIGHT[1:]:
            book.do(deed if deed[1] != "new" else (deed[0], "n" + deed[0], *deed[2:]))
            states.append(asked_of(book))
        deeds = book.log()
        for at in range(len(states) - 1, 0, -1):
            self.assertEqual(book.back(), deeds[6 + at])
            self.assertEqual(asked_of(book), states[at - 1])
        for at in range(1, len(states)):
            self.assertEqual(book.again(), deeds[6 + at])
            self.assertEqual(asked_of(book), states[at])
        self.refused(Nothing, {}, book.again)
        for at in range(len(book)):
            book.back()
        self.assertEqual(asked_of(book), asked_of(Book()))
        self.refused(Nothing, {}, book.back)

    def test_gone_behind_another_deed(self):
        for deed in (("run", "f", 3), ("run", "f", 2), ("end", "g")):
            book = begun()
            book.do(("put", "f", 9, 9, "a"))
            book.do(("run", "f", 3))
            book.back()
            # Be it the same one.
            book.do(deed)
            self.refused(Nothing, {}, book.again)
            self.assertEqual(book.back(), deed)
            self.assertEqual(book.again(), deed)
            book.back()
            self.assertEqual(book.back(), ("put", "f", 9, 9, "a"))
            self.assertEqual([book.again(), book.again()], [("put", "f", 9, 9, "a"), deed])

    def test_what_is_refused_takes_nothing_from_it(self):
        book = begun()
        book.do(("run", "f", 3))
        book.do(("run", "f", 4))
        book.back()
        book.back()
        for deed in (None, ("run", "nope", 1), ("rule", "life", LIFE), ("run", "f", 99), ("put", "f", 0, 0, "z")):
            with self.assertRaises(CellError):
                book.do(deed)
        with self.assertRaises(CellError):
            book.instead(0, ("run", "f", 1))
        with self.assertRaises(CellError):
            book.instead(70, ("run", "f", 1))
        self.assertEqual(book.again(), ("run", "f", 3))
        self.assertEqual(book.again(), ("run", "f", 4))

    def test_back_of_a_log_of_100(self):
        book = self.full()
        self.assertEqual(len(book), 100)
        told = [book.back() for _ in range(93)]
        self.assertEqual(book, begun())
        self.assertEqual([book.again() for _ in range(93)], told[::-1])
        self.assertEqual(len(book), 100)


class Instead(Books):
    def test_wrong_place(self):
        book = begun()
        for at in no_numbers(0, 6):
            self.refused(Wrong, {"at": 0}, book.instead, at, ("rule", "life", LIFE))
            # Ahead of what is none.
            self.refused(Wrong, {"at": 0}, book.instead, at, None)
        book.back()
        self.refused(Wrong, {"at": 0}, book.instead, 6, ("rule", "life", LIFE))
        self.refused(Wrong, {"at": 0}, Book().instead, 0, ("rule", "life", LIFE))
        self.assertEqual(book.again()[:2], ("field", "w"))

    def test_the_same_deed(self):
        book = begun()
        for at, deed in enumerate(book.log()):
            book.do(("run", "f", 1))
            book.back()
            self.assertEqual(book.instead(at, deed), [])
            self.assertEqual(book, begun())
            # What was taken back can't be done again, though nothing is otherwise.
            self.refused(Nothing, {}, book.again)

    def test_what_is_told(self):
        log = [
            ("rule", "r", LIFE), ("rule", "s", LIFE), ("field", "f", "r", GLIDER), ("copy", "c", "f"), ("run", "c", 4), ("put", "f", 9, 9, "a"), ("field", "g", "s", BARE),
        ]

        def made():
            book = Book()
            for deed in log:
                book.do(deed)
            return book
        for at, deed, known in (
            (0, ("rule", "r", TURNING), ["c", "r"]), (1, ("rule", "s", WIRES), ["s"]), (2, ("field", "f", "r", BARE), ["c", "f"]), (2, ("field", "f", "s", GLIDER), ["c", "f"]),
            (2, ("field", "f", "r", GLIDER.moved(1, 1)), ["c", "f"]), (2, ("field", "f", "r", GLIDER.dated(1)), ["c", "f"]), (4, ("run", "c", 5), ["c"]), (4, ("end", "c"), ["c"]),
            (4, ("run", "f", 4), ["c", "f"]), (4, ("run", "c", 4), []), (5, ("end", "f"), ["f"]), (5, ("rule", "t", LIFE), ["f", "t"]), (6, ("field", "z", "s", BARE), ["g", "z"]),
            (6, ("end", "s"), ["g", "s"]), (6, ("field", "g", "r", BARE), ["g"]), (6, ("rule", "g", LIFE), ["g"]), (6, ("copy", "g", "c"), ["g"]), (6, ("put", "f", 9, 9, "a"), ["g"]),
            (5, ("put", "f", 9, 9, "."), ["f"]), (5, ("put", "f", 1, 0, "a"), ["f"]), (0, ("rule", "r", LIFE), []),
        ):
            book = made()
            told = book.instead(at, deed)
            self.assertEqual(told, known, (at, deed))
            self.assertIs(type(told), list)
            self.assertEqual(book.log(), [*log[:at], deed, *log[at + 1:]])
            other = Book()
            for one in book.log():
                other.do(one)
            self.assertEqual(asked_of(book), asked_of(other))
            self.refused(Nothing, {}, book.again)
            self.assertEqual(book.back(), book_log_last(log, at, deed))

    def test_a_rule_that_is_otherwise_is_told_but_not_its_field(self):
        book = Book()
        book.do(("rule", "r", LIFE))
        book.do(("field", "f", "r", BARE))
        book.do(("field", "g", "r", GLIDER))
        # A bare field runs to the same by both.
        self.assertEqual(book.instead(0, ("rule", "r", TURNING)), ["r"])
        self.assertEqual((book.rule_of("f"), book.field("g")), (TURNING, GLIDER))

    def test_names_that_change_places(self):
        book = Book()
        for deed in (("rule", "r", LIFE), ("rule", "s", LIFE), ("end", "s")):
            book.do(deed)
        self.assertEqual(book.instead(2, ("field", "f", "s", BARE)), ["f", "s"])
        self.assertEqual(book.instead(2, ("field", "g", "r", BARE)), ["f", "g"])
        self.assertEqual(book.names(), [("g", "field"), ("r", "rule"), ("s", "rule")])
        # A name that was a rule and is a field.
        self.assertEqual(book.instead(1, ("field", "s", "r", BARE)), ["s"])

    def test_broken_at_the_first_that_is_refused_then(self):
        log = [("rule", "r", LIFE), ("field", "f", "r", GLIDER), ("put", "f", 5, 5, "a"), ("run", "f", 4), ("copy", "c", "f"), ("end", "f"), ("run", "c", 2), ("rule", "s", TURNING)]

        def made():
            book = Book()
            for deed in log:
                book.do(deed)
            book.do(("run", "c", 1))
            book.back()
            return book
        for at, deed, broken in (
            # The one that is put there itself: no deed, or refused.
            (0, None, 0), (3, ("run", "f", 101), 3), (3, ["run", "f", 4], 3), (0, ("run", "f", 1), 0), (1, ("field", "f", "s", GLIDER), 1), (4, ("copy", "c", "c"), 4), (2, ("put", "f", 0, 0, "b"), 2),
            (7, ("rule", "r", LIFE), 7), (7, ("end", "r"), 7), (2, ("put", "f", FAR, 0, "a"), 2),
            # One behind it: told by its place in the whole log.
            (0, ("rule", "q", LIFE), 1), (1, ("field", "g", "r", BARE), 2), (4, ("copy", "d", "f"), 6), (5, ("end", "c"), 6), (2, ("end", "f"), 3), (3, ("end", "f"), 4), (5, ("rule", "s", LIFE), 7),
            (2, ("put", "f", 193, 0, "a"), 3), (3, ("copy", "c", "f"), 4), (0, ("rule", "r", GROWING), 1), (4, ("run", "f", 1), 6), (6, ("field", "s", "r", BARE), 7),
        ):
            book = made()
            known = asked_of(book)
            self.refused(Broken, {"at": broken}, book.instead, at, deed)
            self.assertEqual(asked_of(book), known)
            self.assertEqual(book.again(), ("run", "c", 1))

    def test_things_that_are_no_deeds(self):
        for thing in whatever():
            for at in (0, 3, 6):
                self.refused(Broken, {"at": at}, begun().instead, at, thing)

    def test_a_full_log(self):
        book = self.full()
        for at, known in ((99, ["f", "g"]), (50, ["g"]), (7, ["g"])):
            self.assertEqual(book.instead(at, ("run", "g", 1)), known)
        self.assertEqual(len(book), 100)
        self.assertEqual(book.field("g").turn(), 3)
        self.assertEqual(book.back(), ("run", "g", 1))

    def test_back_and_again_behind_it(self):
        book = begun()
        book.do(("run", "f", 3))
        book.do(("run", "g", 3))
        book.back()
        self.assertEqual(book.instead(7, ("run", "f", 2)), ["f"])
        self.refused(Nothing, {}, book.again)
        # It is no deed: the last one of the log is taken back, not what stood there.
        self.assertEqual(book.back(), ("run", "f", 2))
        self.assertEqual(book.field("f"), GLIDER)
        self.assertEqual(book.again(), ("run", "f", 2))
        self.assertEqual(book.field("f"), run(LIFE, GLIDER, 2))
        self.assertEqual(book.instead(3, ("field", "f", "life", BARE)), ["f"])
        self.assertEqual(book.back(), ("run", "f", 2))
        self.assertEqual((book.field("f"), book.back()[1]), (BARE, "w"))
        self.assertEqual([book.again()[1], book.again()], ["w", ("run", "f", 2)])
        self.assertEqual(book.field("f"), BARE.dated(2))


def book_log_last(log, at, deed):
    return [*log[:at], deed, *log[at + 1:]][-1]


class ToldOfABook(Books):
    def test_names_are_sorted(self):
        book = Book()
        for name in ("z", "a", "m", "ab", "b"):
            book.do(("rule", name, LIFE))
        book.do(("field", "aa", "z", BARE))
        self.assertEqual(book.names(), [("a", "rule"), ("aa", "field"), ("ab", "rule"), ("b", "rule"), ("m", "rule"), ("z", "rule")])

    def test_unknown(self):
        book = begun()
        for thing in whatever() + ["nope", "F", "", ["f"], ("f",), b"f", Hostile(), Like()]:
            for call in (book.rule, book.rule_of, book.field):
                self.refused_alike(Unknown, thing, call, thing)
            for at in (None, 0, 7):
                self.refused_alike(Unknown, thing, book.field, thing, at=at)
        for name in ("f", "g", "t", "w"):
            self.refused(Unknown, {"name": name}, book.rule, name)
        for name in ("life", "turning", "wires"):
            self.refused(Unknown, {"name": name}, book.rule_of, name)
            self.refused(Unknown, {"name": name}, book.field, name)
            self.refused(Unknown, {"name": name}, book.field, name, at=3)

    def refused_alike(self, error, thing, call, *things, **named):
        """A call is refused with this error, which keeps the very thing."""
        with self.assertRaises(CellError) as caught:
            call(*things, **named)
        self.assertIs(type(caught.exception), error)
        self.assertIs(caught.exception.name, thing)

    def test_fields_as_they_stood(self):
        book = begun()
        for deed in (("run", "f", 1), ("put", "f", 7, 7, "a"), ("end", "g"), ("run", "f", 2), ("end", "f"), ("field", "f", "turning", BARE), ("field", "g", "life", BARE.dated(9))):
            book.do(deed)
        log = book.log()
        for at in range(len(log) + 1):
            other = Book()
            for deed in log[:at]:
                other.do(deed)
            for name in ("f", "g", "t", "w"):
                if (name, "field") in other.names():
                    self.assertEqual(book.field(name, at=at), other.field(name))
                else:
                    self.refused(Unknown, {"name": name}, book.field, name, at=at)
        self.assertEqual(book.field("f", at=len(log)), book.field("f"))
        self.assertEqual(book.field("f", at=None), BARE)
        # Names that stood and were ended.
        self.assertEqual(book.field("f", at=11), run(LIFE, run(LIFE, GLIDER, 1).put(7, 7, "a"), 2))
        self.refused(Unknown, {"name": "f"}, book.field, "f", at=12)

    def test_wrong_places(self):
        book = begun()
        for at in no_numbers(0, 7):
            if at is not None:
                self.refused(Wrong, {"at": 1}, book.field, "f", at=at)
                # Told ahead of a name that isn't there.
                self.refused(Wrong, {"at": 1}, book.field, "nope", at=at)
                self.refused(Wrong, {"at": 1}, book.field, None, at=at)
        book.back()
        self.refused(Wrong, {"at": 1}, book.field, "f", at=7)
        self.assertEqual(book.field("f", at=6), GLIDER)
        self.refused(Wrong, {"at": 1}, Book().field, "f", at=1)
        self.refused(Unknown, {"name": "f"}, Book().field, "f", at=0)
        self.refused(Unknown, {"name": "w"}, book.field, "w", at=6)

    def test_the_log_and_its_length(self):
        book = begun()
        self.assertEqual(len(book), 7)
        self.assertEqual([deed[1] for deed in book.log()], ["life", "turning", "wires", "f", "g", "t", "w"])
        book.back()
        self.assertEqual((len(book), len(book.log())), (6, 6))
        with self.assertRaises(CellError):
            book.do(("run", "w", 1))
        self.assertEqual(len(book), 6)

    def test_copied(self):
        book = begun()
        book.do(("run", "f", 1))
        book.do(("run", "f", 2))
        book.back()
        other = book.copied()
        self.assertIs(type(other), Book)
        self.assertEqual(asked_of(other), asked_of(book))
        # Also in what can be done again.
        self.assertEqual(other.again(), ("run", "f", 2))
        self.assertEqual((len(book), len(other)), (8, 9))
        self.assertEqual(book.again(), ("run", "f", 2))
        other.instead(3, ("field", "f", "life", BARE))
        other.do(("end", "g"))
        self.assertEqual(book.field("f"), run(LIFE, GLIDER, 3))
        self.assertEqual(book.names(), begun().names())
        third = book.copied()
        for _ in range(9):
            book.back()
        self.assertEqual((len(book), len(third), third.field("f").turn()), (0, 9, 3))
        third.back()
        self.assertEqual(book.again()[1], "life")

    def test_equal_by_logs(self):
        one, other = begun(), begun()
        self.assertIs(one == other, True)
        self.assertIs(one != other, False)
        one.do(("run", "f", 1))
        self.assertIs(one == other, False)
        one.back()
        # Not by what can be done again.
        self.assertIs(one == other, True)
        one.do(("put", "g", 0, 0, "."))
        other.do(("put", "g", 0, 1, "."))
        # The same fields by other deeds.
        self.assertEqual(one.field("g"), other.field("g"))
        self.assertIs(one == other, False)
        self.assertIs(Book() == Book(), True)
        for made, alike in ((("rule", "z", Rule("around", 2, (), [])), True), (("rule", "z", Rule("around", 3, (), [])), False)):
            one, other = Book(), Book()
            one.do(("rule", "z", Rule("around", 2, (), [])))
            other.do(made)
            self.assertIs(one == other, alike)
        one, other = begun(), begun()
        one.do(("lay", "w", 0, 0, AND, {"a": [1], "b": []}))
        other.do(("lay", "w", 0, 0, read_machine("in a/in b/and c a b/out c"), {"a": [1]}))
        self.assertEqual(one, other)

    def test_unlike_any_other_thing(self):
        for book in (Book(), begun()):
            for thing in whatever() + [book.log(), tuple(book.log()), show_log(book), Book]:
                if not isinstance(thing, (Hostile, Like)):
                    self.assertIs(book == thing, False)
                    self.assertIs(book != thing, True)


class ByChance(Books):
    def both(self, book, model, name, *things):
        """A call of a book and the model's: the same is told, or the same refused, which changes nothing."""
        known = asked_of(book) if book is not None else None
        try:
            wanted = None, getattr(model, name)(*things)
        except Refused as caught:
            wanted = caught.told
        try:
            told = None, getattr(book, name)(*things)
        except CellError as caught:
            told = type(caught), vars(caught)
            self.assertEqual(asked_of(book), known)
        self.assertEqual(told, wanted, (name, things))
        return wanted[0]

    def test_against_a_book_that_goes_through_its_log(self):
        found = {}
        for seed in range(45):
            by = chance(1000 + seed)
            book, model = Book(), ModelBook()
            for _ in range(45):
                lot = by.random()
                if lot < 0.72:
                    deed = some_deed(by, model.state())
                    found["do", deed[0], self.both(book, model, "do", deed)] = True
                elif lot < 0.8:
                    found["back", self.both(book, model, "back")] = True
                elif lot < 0.87:
                    found["again", self.both(book, model, "again")] = True
                elif lot < 0.97:
                    at = by.randint(-1, len(model.log))
                    deed = some_deed(by, model.state(max(at, 0)))
                    if by.random() < 0.5 and 0 <= at < len(model.log):
                        deed = self.much_like(by, model.log[at], model.log)
                    found["instead", self.both(book, model, "instead", at, deed)] = True
                else:
                    book = book.copied()
                state = model.state()
                self.assertEqual(book.log(), model.log)
                self.assertEqual(book.names(), [(name, "rule" if len(state[name]) == 1 else "field") for name in sorted(state)])
                for name, told in state.items():
                    if len(told) == 1:
                        self.assertEqual(book.rule(name), told[0])
                    else:
                        self.assertEqual((book.rule_of(name), book.field(name)), (state[told[0]][0], told[1]))
            self.made_anew(book)
            many = len(model.log)
            for at in sorted({0, many // 2, many}):
                for name, told in model.state(at).items():
                    if len(told) == 2:
                        self.assertEqual(book.field(name, at=at), told[1])
        done = {key[1] for key in found if key[0] == "do" and key[2] is None}
        self.assertEqual(done, set(WORDS))
        for key in (("instead", None), ("instead", Broken), ("instead", Wrong), ("back", None), ("again", None), ("again", Nothing), ("do", "lay", Filled), ("do", "lay", Alien), ("do", "end", Used)):
            self.assertIn(key, found)

    def much_like(self, by, deed, log):
        """A deed like one of a log: another rule, another field, or another one of the log."""
        if deed[0] == "rule":
            return *deed[:2], by.choice(RULES)
        if deed[0] == "field":
            return *deed[:3], some_book_field(by)
        return by.choice(log)

    def made_anew(self, book):
        """A book made anew of its log is equal, and tells the same."""
        for other in (Book(), None):
            if other is None:
                other = book_of(show_log(book))
            else:
                for deed in book.log():
                    other.do(deed)
            self.assertEqual(other, book)
            self.assertEqual(asked_of(other), asked_of(book))
            for at in range(0, len(book) + 1, 5):
                for name, sort in book.names():
                    if sort == "field":
                        self.assertEqual(self.stood(other, name, at), self.stood(book, name, at))

    def stood(self, book, name, at):
        try:
            return book.field(name, at=at)
        except Unknown:
            return None

    def test_two_books_know_nothing_of_each_other(self):
        by = chance(1100)
        one, other, known = Book(), Book(), Book()
        for _ in range(80):
            deed = some_deed(by, {name: (one.rule(name),) if sort == "rule" else (next(word for word, kind in one.names() if kind == "rule"), one.field(name)) for name, sort in one.names()})
            for book in (one, known):
                try:
                    book.do(deed)
                except CellError:
                    pass
            if by.random() < 0.3 and len(other):
                other.instead(0, ("rule", "r", LIFE))
                other.back()
            elif len(other) < 90:
                other.do(("rule", "r", LIFE) if len(other) == 0 else ("put", "f", 0, len(other), "a") if len(other) > 1 else ("field", "f", "r", BARE))
        self.assertEqual(asked_of(one), asked_of(known))
        self.assertGreater(len(one), 20)


class NothingIsChanged(Books):
    def test_what_was_handed_in(self):
        piece, fed = ["a_", "_a"], {"a": [0, 1], "b": []}
        book = begun()
        for deed in (("place", "f", 5, 5, 3, piece), ("lay", "w", 0, 0, AND, fed)):
            book.do(deed)
        self.assertEqual((piece, fed, list(fed)), (["a_", "_a"], {"a": [0, 1], "b": []}, ["a", "b"]))
        known = asked_of(book)
        known_log = [deed[5] for deed in known[1][-2:]]
        self.assertEqual(known_log, [["a_", "_a"], {"a": [0, 1]}])
        # What is changed in it behind the call changes nothing.
        piece[0] = "aa"
        piece.append("aa")
        fed["a"].append(1)
        fed["b"].append(1)
        fed["c"] = [1]
        self.assertEqual([deed[5] for deed in book.log()[-2:]], [["a_", "_a"], {"a": [0, 1]}])
        self.assertEqual(asked_of(book)[3:], known[3:])
        for at in (7, 8):
            deed = book.log()[at]
            self.assertEqual(book.instead(at, deed), [])
            deed[5].clear()
        self.assertEqual([deed[5] for deed in book.log()[-2:]], [["a_", "_a"], {"a": [0, 1]}])

    def test_what_was_refused(self):
        piece, fed = ["a_", "_z"], {"a": [0, 1], "c": []}
        for deed in (("place", "f", 5, 5, 3, piece), ("lay", "w", 0, 0, AND, fed)):
            with self.assertRaises(CellError):
                begun().do(deed)
            with self.assertRaises(CellError):
                begun().instead(6, deed)
        self.assertEqual((piece, fed), (["a_", "_z"], {"a": [0, 1], "c": []}))

    def test_what_was_told(self):
        book = begun()
        book.do(("place", "f", 5, 5, 3, ["a_", "_a"]))
        book.do(("lay", "w", 0, 0, AND, {"a": [0, 1]}))
        known = asked_of(book)
        for _ in range(2):
            for deed in book.log()[-2:] + [book.back(), book.again()]:
                part = deed[5]
                if isinstance(part, dict):
                    part["a"].append(1)
                part.clear()
            book.log().clear()
            book.names().clear()
            self.assertEqual(asked_of(book), known)
        back = [book.back(), book.back()]
        back[0][5]["a"].append(7)
        back[1][5].append("a")
        self.assertEqual([book.again()[5], book.again()[5]], [["a_", "_a"], {"a": [0, 1]}])
        other = book.copied()
        other.log()[-1][5].clear()
        other.back()[5].clear()
        self.assertEqual(other.again()[5], {"a": [0, 1]})
        self.assertEqual(asked_of(book), known)
        told = book.instead(0, ("rule", "life", LIFE))
        told.append("z")
        self.assertEqual(asked_of(book), known)

    def test_all_is_defined_in_the_file(self):
        self.assertEqual(file.Book.__module__, "cellscript.books")
        for name in ("do", "back", "again", "instead", "names", "log", "rule", "rule_of", "field", "copied", "__eq__", "__len__"):
            self.assertIn(name, vars(Book))


if __name__ == "__main__":
    unittest.main()
