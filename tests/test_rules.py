"""[20] to [24], [26], and of [3] and [4] what is theirs: rules."""

import unittest
from copy import deepcopy
from itertools import permutations, product

from cellscript.errors import BadRow, Unfit, Wrong
from cellscript.rules import Rule
from tests.support import (
    BESIDE, SIGNS, SORTS, WAYS, Hostile, Told, chance, model_becomes, model_block, model_spot, model_turned, nested,
    no_numbers, no_texts_of, no_ways, shown, some_parts, whatever,
)

ROW = (".a", (("at", "n", "ab"), ("count", 1, 2, "b")), "b")
FOURS = ((".a", "a", "b", ".ab"), "ab..")


def no_tuples_of_places():
    """Things that are no tuples of unlike places."""
    things = [thing for thing in whatever() if type(thing) is not tuple or thing != ()]
    return things + [
        ("n", "n"), ("n", "e", "n"), ("N",), ("",), ("nn",), ("n", "x"), ["n"], ["n", "e"], "n", "ne", {"n": "e"}, ("n", None),
        (("n",),), ("n", ["e"]), (0,), tuple(BESIDE) + ("n",), (Hostile(),), ("n", Hostile()), (b"n",), (True,),
    ]


def no_lists_of_rows():
    """Things that are no lists, or too long ones."""
    things = [thing for thing in whatever() if type(thing) is not list]
    return things + [[ROW] * 81, [None] * 81, (ROW,), tuple(), [0] * 10000]


def no_rows_of_signs():
    """Things that are no rows of signs of a rule of the signs ., a and b."""
    things = [thing for thing in whatever() if type(thing) is not str or thing not in (".", "a", "ab")]
    return things + ["c", ".c", "abc", "bb", "b.", "ba.", "aab", "z", "a b", ["a", "b"], ("a",), b"b", SIGNS]


def no_signs_of_it():
    """Things that are no signs of a rule of the signs ., a and b."""
    things = [thing for thing in whatever() if type(thing) is not str or thing not in (".", "a")]
    return things + ["c", "z", "..", "ab", "bb", ["a"], ("b",)]


def no_tests_of_it():
    """Things that are no tests of a rule of the signs ., a and b, with n and se near."""
    bad = [thing for thing in whatever()]
    bad += [("at", place, "a") for place in [*whatever(), "e", "nw", "s", "N", "sen", ["n"], ("n",)] if not is_n(place)]
    bad += [("at", "n", signs) for signs in no_rows_of_signs()]
    bad += [("count", low, 8, "a") for low in no_numbers(0, 8)]
    bad += [("count", 0, high, "a") for high in no_numbers(0, 8)]
    bad += [("count", 0, 1, signs) for signs in no_rows_of_signs()]
    bad += [("count", low, low - 1, "a") for low in range(1, 9)]
    bad += [
        ("at", "n"), ("at", "n", "a", "a"), ("at",), ("count", 0, 1), ("count", 0, 1, "a", "a"), ("count",), ("count", 1, "a"),
        ["at", "n", "a"], ["count", 0, 1, "a"], ("AT", "n", "a"), ("at ", "n", "a"), ("", "n", "a"), ("counts", 0, 1, "a"),
        (["at"], "n", "a"), (None, "n", "a"), (b"at", "n", "a"), ("count", "n", "a"), ("at", 0, 1, "a"), ("n", "a"),
        ("at", "a", "n"), {"at": "n"}, (Hostile(), "n", "a"), (Posing("at"), "n", "a"), (Posing("count"), 0, 1, "a"),
    ]
    return bad


class Posing:
    """A thing that is equal to a text but is none."""

    __hash__ = None

    def __init__(self, text):
        self.text = text

    def __eq__(self, other):
        return other == self.text


def is_n(thing):
    return type(thing) is str and thing == "n"


class Made(Told):
    def test_what_it_is_made_of_is_told(self):
        for sort, many, near, rows in (
            ("around", 3, ("n", "e"), [ROW]), ("halves", 4, ("w", "n"), [("c", (), ".")]), ("blocks", 3, (), [FOURS]),
            ("around", 2, (), []), ("halves", 27, (), []), ("blocks", 2, (), []),
        ):
            rule = Rule(sort, many, near, rows)
            self.assertEqual(rule.kind(), sort)
            self.assertEqual(rule.many(), many)
            self.assertEqual(rule.near(), near)
            self.assertIs(type(rule.near()), tuple)
            self.assertEqual(rule.rows(), rows)
            self.assertIs(type(rule.rows()), list)
            self.assertEqual(rule.signs(), SIGNS[:many])

    def test_of_all_kinds_by_chance(self):
        by = chance(4)
        for sort in SORTS:
            for _ in range(100):
                parts = some_parts(by, sort)
                rule = Rule(*parts)
                self.assertEqual((rule.kind(), rule.many(), rule.near(), rule.rows()), parts)

    def test_from_2_to_27_signs(self):
        for sort in SORTS:
            for many in range(2, 28):
                rule = Rule(sort, many, (), [])
                self.assertEqual((rule.many(), rule.signs()), (many, SIGNS[:many]))
            for many in (-1, 0, 1, 28, 29, True, "2", None):
                self.refused(Wrong, {"at": 1}, Rule, sort, many, (), [])

    def test_0_to_80_rows(self):
        for sort, near, row in (("around", ("n",), ROW), ("halves", ("n",), ROW), ("blocks", (), FOURS)):
            for long in (0, 1, 2, 79, 80):
                rule = Rule(sort, 3, near, [row] * long)
                self.assertEqual((len(rule), rule.rows()), (long, [row] * long))
            for long in (81, 82, 1000):
                self.refused(Wrong, {"at": 3}, Rule, sort, 3, near, [row] * long)
                self.refused(Wrong, {"at": 3}, Rule, sort, 3, near, [None] * long)

    def test_near_in_any_order(self):
        for near in permutations(("n", "se", "w")):
            self.assertEqual(Rule("around", 2, near, []).near(), near)
        for long in range(5):
            for near in permutations(("n", "e", "s", "w"), long):
                self.assertEqual(Rule("halves", 2, near, []).near(), near)
        whole = tuple(reversed(list(BESIDE)))
        self.assertEqual(Rule("around", 2, whole, []).near(), whole)

    def test_near_of_each_sort(self):
        for place in BESIDE:
            self.assertEqual(Rule("around", 2, (place,), []).near(), (place,))
            self.refused(Wrong, {"at": 2}, Rule, "blocks", 2, (place,), [])
            if len(place) == 2:
                self.refused(Wrong, {"at": 2}, Rule, "halves", 2, (place,), [])
                self.refused(Wrong, {"at": 2}, Rule, "halves", 2, ("n", place), [])

    def test_rows_as_long_as_may_be(self):
        tests = (("at", "n", "a"), ("count", 0, 8, ".ab")) * 4
        row = ("a", tests, "b")
        self.assertEqual(Rule("around", 3, ("n",), [row]).rows(), [row])
        self.refused(BadRow, {"at": 0}, Rule, "around", 3, ("n",), [("a", tests + (("at", "n", "a"),), "b")])
        for low, high in product(range(9), range(9)):
            row = ("a", (("count", low, high, "a"),), "b")
            if low <= high:
                self.assertEqual(Rule("halves", 3, (), [row]).rows(), [row])
            else:
                self.refused(BadRow, {"at": 0}, Rule, "halves", 3, (), [row])


class Refused(Told):
    def test_wrong_by_its_place(self):
        sorts = [thing for thing in whatever() if type(thing) is not str or thing != "around"]
        sorts += ["Around", "arounds", "half", "block", "endless", " around", "around\n", ["around"], b"halves"]
        sorts += [Posing("around"), Posing("halves"), Posing("blocks")]
        for sort, near in (("around", ("n", "ne")), ("halves", ("n", "e")), ("blocks", ())):
            no_near = no_tuples_of_places() + {"around": [], "halves": [("ne",)], "blocks": [("n",)]}[sort]
            self.refused_wrong(Rule, [sort, 3, near, []], [sorts, no_numbers(2, 27), no_near, no_lists_of_rows()])

    def test_wrong_ahead_of_bad_rows(self):
        for bad in (None, ("c", (), "a"), []):
            self.refused(Wrong, {"at": 0}, Rule, "", 3, (), [bad])
            self.refused(Wrong, {"at": 1}, Rule, "around", 1, (), [bad])
            self.refused(Wrong, {"at": 2}, Rule, "around", 3, ("x",), [bad])
            self.refused(Wrong, {"at": 3}, Rule, "around", 3, (), [bad] * 81)
            self.refused(BadRow, {"at": 0}, Rule, "around", 3, (), [bad])

    def test_the_first_bad_row(self):
        for sort, near, row in (("around", ("n",), ROW), ("halves", ("n",), ROW), ("blocks", (), FOURS)):
            for at in (0, 1, 5, 79):
                rows = [row] * 80
                rows[at] = None
                self.refused(BadRow, {"at": at}, Rule, sort, 3, near, rows)
                rows[at:] = [None] * (80 - at)
                self.refused(BadRow, {"at": at}, Rule, sort, 3, near, rows)

    def bad(self, rows, sort="around", near=("n", "se")):
        for row in rows:
            try:
                self.refused(BadRow, {"at": 0}, Rule, sort, 3, near, [row])
            except AssertionError as caught:
                raise AssertionError(shown(row)) from caught

    def test_rows_of_around_and_halves(self):
        for sort, near in (("around", ("n", "se")), ("halves", ("n", "s"))):
            right = ("a", (("at", "n", "a"),), "b")
            self.assertEqual(len(Rule(sort, 3, near, [right])), 1)
            self.bad([thing for thing in whatever() if type(thing) is not tuple or thing != ("a", (), "b")], sort, near)
            self.bad([(own, (), "a") for own in no_rows_of_signs()], sort, near)
            self.bad([("a", (), sign) for sign in no_signs_of_it()], sort, near)
            no_tests = [thing for thing in whatever() if type(thing) is not tuple or thing != ()]
            self.bad([("a", tests, "b") for tests in [*no_tests, [("at", "n", "a")], {("at", "n", "a"): 0}]], sort, near)
            self.bad([(), ("a",), ("a", "b"), ("a", ()), ("a", (), "b", "b"), ["a", (), "b"], [*right], FOURS], sort, near)
            self.bad([("a", "b", ()), ((), "a", "b"), {"a": "b"}, "a.b"], sort, near)

    def test_tests(self):
        right = ("at", "n", "a")
        for test in no_tests_of_it():
            self.bad([("a", (test,), "b"), ("a", (right, test), "b"), ("a", (test, right), "b")])

    def test_at_must_be_near(self):
        for near in ((), ("e",), ("ne", "nw")):
            self.bad([("a", (("at", "n", "a"),), "b")], "around", near)

    def test_rows_of_blocks(self):
        fours, four = FOURS
        self.assertEqual(len(Rule("blocks", 3, (), [FOURS])), 1)
        self.bad(whatever(), "blocks", ())
        self.bad([ROW, ("a", (), "b"), (), (fours,), (four,), (fours, four, four), [fours, four], (four, fours)], "blocks", ())
        no_fours = [
            fours[:3], fours + ("a",), list(fours), "abab", ("abab",), (fours,), {one: 0 for one in "ab.c"}, None, (),
        ]
        self.bad([(thing, four) for thing in [*whatever(), *no_fours]], "blocks", ())
        for at in range(4):
            for signs in no_rows_of_signs():
                self.bad([(fours[:at] + (signs,) + fours[at + 1:], four)], "blocks", ())
        self.bad([(fours, thing) for thing in [*no_texts_of(".ab", 4), "abca", "...c", list(four), tuple(four)]], "blocks", ())

    def test_things_fifty_within_one_another(self):
        for make in (lambda thing: (thing,), lambda thing: ("a", thing, "b"), lambda thing: ("at", "n", thing)):
            self.bad([nested(50, make), ("a", nested(49, make), "b"), ("a", (nested(48, make),), "b")])
            self.bad([nested(50, make), (nested(49, make), "....")], "blocks", ())


class Becomes(Told):
    def test_at(self):
        rule = Rule("around", 4, ("n", "se", "w"), [("a", (("at", "se", "bc"),), "c")])
        for n, se, w in product(".abc", repeat=3):
            self.assertEqual(rule.becomes("a", n + se + w), "c" if se in "bc" else "a")
            self.assertEqual(rule.becomes("b", n + se + w), "b")

    def test_count(self):
        for low in range(9):
            for high in range(low, 9):
                rule = Rule("around", 3, tuple(BESIDE), [("a", (("count", low, high, "ab"),), ".")])
                for many in range(9):
                    around = "ab" * 4
                    around = around[:many] + "." * (8 - many)
                    self.assertEqual(rule.becomes("a", around), "." if low <= many <= high else "a", (low, high, many))
                    self.assertEqual(rule.becomes("a", around[::-1]), "." if low <= many <= high else "a")

    def test_all_tests_must_hold(self):
        rule = Rule("around", 3, ("n", "e"), [("a", (("at", "n", "a"), ("at", "e", "b"), ("count", 1, 1, "a")), "b")])
        told = {n + e: rule.becomes("a", n + e) for n in ".ab" for e in ".ab"}
        self.assertEqual([around for around, sign in told.items() if sign == "b"], ["ab"])

    def test_the_first_row_that_fits(self):
        rule = Rule("around", 5, ("n",), [("a", (("at", "n", "b"),), "b"), ("ab", (), "c"), ("abc", (), "d")])
        self.assertEqual([rule.becomes(own, "b") for own in ".abcd"], [".", "b", "c", "d", "d"])
        self.assertEqual([rule.becomes(own, "a") for own in ".abcd"], [".", "c", "c", "d", "d"])

    def test_none_fits(self):
        for sort in ("around", "halves"):
            rule = Rule(sort, 27, ("n",), [])
            for own in SIGNS:
                self.assertEqual(rule.becomes(own, "z"), own)

    def test_as_told(self):
        by = chance(5)
        for sort in ("around", "halves"):
            for _ in range(150):
                parts = some_parts(by, sort)
                rule = Rule(*parts)
                for _ in range(20):
                    own = by.choice(rule.signs())
                    around = "".join(by.choice(rule.signs()) for _ in rule.near())
                    self.assertEqual(rule.becomes(own, around), model_becomes(parts, own, around))

    def test_refused(self):
        rule = Rule("around", 3, ("n", "e"), [ROW])
        self.refused_wrong(rule.becomes, ["a", "ab"], [no_signs_of_it(), no_texts_of(".ab", 2) + ["ac", "ca", "a", "abb"]])
        bare = Rule("halves", 3, (), [])
        self.refused_wrong(bare.becomes, ["a", ""], [no_signs_of_it(), no_texts_of(".ab", 0)])
        for own in "bcz":
            self.refused(Wrong, {"at": 0}, Rule("around", 2, (), []).becomes, own, "")

    def test_unfit(self):
        rule = Rule("blocks", 3, (), [FOURS])
        self.refused(Unfit, {}, rule.becomes, "a", "")
        self.refused(Unfit, {}, rule.becomes, ".", "")
        self.refused_wrong(rule.becomes, ["a", ""], [no_signs_of_it(), no_texts_of(".ab", 0)])


class Block(Told):
    def test_the_four_stand_for_their_corners(self):
        for at in range(4):
            fours = [".a"] * 4
            fours[at] = "a"
            rule = Rule("blocks", 3, (), [(tuple(fours), "abab")])
            for four in map("".join, product(".ab", repeat=4)):
                fits = four[at] == "a" and "b" not in four
                self.assertEqual(rule.block(four), "abab" if fits else four)

    def test_the_first_row_that_fits(self):
        rows = [(("a", "a", "a", "a"), "bbbb"), (("ab", "ab", "ab", "ab"), "cccc"), ((".abc",) * 4, "....")]
        rule = Rule("blocks", 5, (), rows)
        told = [rule.block(four) for four in ("aaaa", "aaab", "bbbb", "abc.", "cccc", "....", "dabc")]
        self.assertEqual(told, ["bbbb", "cccc", "cccc", "....", "....", "....", "dabc"])

    def test_as_told(self):
        by = chance(6)
        for _ in range(200):
            parts = some_parts(by, "blocks")
            rule = Rule(*parts)
            for _ in range(20):
                four = "".join(by.choice(rule.signs()) for _ in range(4))
                self.assertEqual(rule.block(four), model_block(parts, four))

    def test_refused(self):
        for rule in (Rule("blocks", 3, (), [FOURS]), Rule("around", 3, (), []), Rule("halves", 3, ("n",), [])):
            self.refused_wrong(rule.block, ["ab.a"], [no_texts_of(".ab", 4) + ["abca", "aba", "ababa", "c..."]])

    def test_unfit(self):
        for sort in ("around", "halves"):
            self.refused(Unfit, {}, Rule(sort, 3, ("n",), []).block, "....")
            self.refused(Unfit, {}, Rule(sort, 3, (), []).block, "abab")


class Ground(Told):
    def test_around_and_halves(self):
        for sort in ("around", "halves"):
            for rows, keeps in (
                ([], True), ([(".", (), ".")], True), ([(".", (), "a")], False), ([("a", (), "b")], True),
                ([(".", (("at", "n", "a"),), "a")], True), ([(".", (("at", "s", ".a"),), "a")], False),
                ([(".", (("count", 2, 2, "."),), "a")], False), ([(".", (("count", 0, 1, "."),), "a")], True),
                ([(".", (("count", 3, 8, "."),), "a")], True), ([(".a", (), "."), (".", (), "a")], True),
                ([(".", (("at", "n", "."), ("at", "s", ".")), "b")], False), ([("a", (), "."), (".", (), "a")], False),
            ):
                self.assertIs(Rule(sort, 3, ("n", "s"), rows).keeps_ground(), keeps, rows)
        self.assertIs(Rule("around", 2, (), [(".", (), "a")]).keeps_ground(), False)
        self.assertIs(Rule("around", 2, (), [(".", (("count", 0, 0, "."),), "a")]).keeps_ground(), False)

    def test_blocks(self):
        for rows, keeps in (
            ([], True), ([((".",) * 4, "....")], True), ([((".",) * 4, "...a")], False), ([((".a",) * 4, "a...")], False),
            ([(("a",) * 4, "abab")], True), ([((".", ".", ".", "a"), "bbbb")], True),
            ([((".a",) * 4, "...."), ((".",) * 4, "aaaa")], True), ([(("a", ".", ".", "."), "...."), ((".",) * 4, ".a..")], False),
        ):
            self.assertIs(Rule("blocks", 3, (), rows).keeps_ground(), keeps, rows)


class Turned(Told):
    def test_places(self):
        by_step = {step: place for place, step in BESIDE.items()}
        near = tuple(BESIDE)
        rows = [("a", (("at", place, "a"), ("count", 1, 3, "b")), "b") for place in near]
        for way in WAYS:
            told = Rule("around", 3, near, rows).turned(way)
            led = {place: by_step[model_spot(*step, way)] for place, step in BESIDE.items()}
            self.assertEqual(told.near(), tuple(led[place] for place in near))
            expected = [("a", (("at", led[place], "a"), ("count", 1, 3, "b")), "b") for place in near]
            self.assertEqual(told.rows(), expected)
            self.assertEqual((told.kind(), told.many()), ("around", 3))

    def test_places_to_the_letter(self):
        near = ("n", "ne", "e", "w")
        told = [Rule("around", 2, near, []).turned(way).near() for way in WAYS]
        self.assertEqual(told, [
            ("n", "ne", "e", "w"), ("e", "se", "s", "n"), ("s", "sw", "w", "e"), ("w", "nw", "n", "s"),
            ("n", "nw", "w", "e"), ("e", "ne", "n", "s"), ("s", "se", "e", "w"), ("w", "sw", "s", "n"),
        ])

    def test_halves(self):
        rows = [("a", (("at", "w", "a"), ("at", "n", ".")), "b"), (".", (), ".")]
        told = Rule("halves", 4, ("n", "w"), rows).turned(1)
        expected = [("a", (("at", "n", "a"), ("at", "e", ".")), "b"), (".", (), ".")]
        self.assertEqual(told, Rule("halves", 4, ("e", "n"), expected))
        self.assertEqual(Rule("halves", 4, ("n", "w"), rows).turned(4).near(), ("n", "e"))

    def test_blocks_to_the_letter(self):
        rule = Rule("blocks", 5, (), [(("a", "b", "c", "d"), "abcd")])
        told = [rule.turned(way).rows() for way in WAYS]
        fours = ["abcd", "cadb", "dcba", "bdac", "badc", "dbca", "cdab", "acbd"]
        self.assertEqual(told, [[(tuple(four), four)] for four in fours])

    def test_blocks_fours_and_four_apart(self):
        rule = Rule("blocks", 5, (), [((".", "a", "b", "cd"), "dcba"), (("a", "b", "c", "d"), "a...")])
        self.assertEqual(rule.turned(1).rows(), [(("b", ".", "cd", "a"), "bdac"), (("c", "a", "d", "b"), ".a..")])

    def test_blocks_in_a_turned_world(self):
        by = chance(7)
        for _ in range(30):
            parts = some_parts(by, "blocks", 3)
            rule = Rule(*parts)
            for way in WAYS:
                other = rule.turned(way)
                for four in map("".join, product(".ab", repeat=4)):
                    turned = "".join(model_turned([four[:2], four[2:]], way))
                    told = rule.block(four)
                    self.assertEqual(other.block(turned), "".join(model_turned([told[:2], told[2:]], way)))

    def test_back_and_forth(self):
        by = chance(8)
        for sort in SORTS:
            for _ in range(20):
                rule = Rule(*some_parts(by, sort))
                for way in WAYS:
                    back = way if way > 3 else (4 - way) % 4
                    self.assertEqual(rule.turned(way).turned(back), rule)
                    self.assertEqual(len(rule.turned(way)), len(rule))
                self.assertEqual(rule.turned(0), rule)

    def test_refused(self):
        for sort in SORTS:
            self.refused_wrong(Rule(sort, 2, (), []).turned, [1], [no_ways()])


class Equal(Told):
    def test_equal(self):
        by = chance(9)
        for sort in SORTS:
            for _ in range(30):
                sort, many, near, rows = some_parts(by, sort)
                one, other = Rule(sort, many, near, rows), Rule(sort, many, near, deepcopy(rows))
                self.assertIs(one == other, True)
                self.assertIs(one != other, False)

    def test_otherwise_in_one_part(self):
        row = ("a", (), "b")
        rule = Rule("around", 3, ("n", "e"), [row, ROW])
        for other in (
            Rule("halves", 3, ("n", "e"), [row, ROW]), Rule("around", 4, ("n", "e"), [row, ROW]),
            Rule("around", 3, ("e", "n"), [row, ROW]), Rule("around", 3, ("n", "e", "s"), [row, ROW]),
            Rule("around", 3, ("n", "e"), [ROW, row]), Rule("around", 3, ("n", "e"), [row]),
            Rule("around", 3, ("n", "e"), [row, ROW, ROW]), Rule("around", 3, ("n", "e"), []),
        ):
            self.assertIs(rule == other, False)
            self.assertIs(rule != other, True)

    def test_the_sort_counts(self):
        self.assertNotEqual(Rule("around", 2, (), []), Rule("blocks", 2, (), []))
        self.assertNotEqual(Rule("around", 2, (), []), Rule("halves", 2, (), []))

    def test_to_nothing_else(self):
        for rule in (Rule("around", 3, (), []), Rule("blocks", 3, (), [FOURS])):
            for thing in [*whatever(), repr(rule), ("around", 3, (), []), rule.rows(), Rule]:
                self.assertIs(rule == thing, False, shown(thing))
                self.assertIs(rule != thing, True, shown(thing))

    def test_length_and_repr(self):
        self.assertEqual(repr(Rule("around", 3, ("n",), [ROW])), "Rule(around, 3, 1)")
        self.assertEqual(repr(Rule("halves", 27, (), [])), "Rule(halves, 27, 0)")
        self.assertEqual(repr(Rule("blocks", 4, (), [FOURS] * 80)), "Rule(blocks, 4, 80)")
        self.assertEqual(len(Rule("blocks", 4, (), [FOURS] * 80)), 80)
        self.assertEqual(len(Rule("around", 4, (), [])), 0)


class NothingIsChanged(Told):
    def test_lists_handed_in(self):
        rows = [ROW]
        rule = Rule("around", 3, ("n",), rows)
        self.assertEqual(rows, [ROW])
        rows.append(("a", (), "b"))
        rows[0] = None
        self.assertEqual(rule.rows(), [ROW])
        self.assertEqual(len(rule), 1)

    def test_lists_told(self):
        rule = Rule("around", 3, ("n",), [ROW])
        told = rule.rows()
        told.clear()
        self.assertEqual(rule.rows(), [ROW])
        self.assertEqual((len(rule), rule.becomes("a", "a")), (1, "a"))
        self.assertIsNot(rule.rows(), rule.rows())

    def test_what_is_refused_changes_nothing(self):
        rule = Rule("around", 3, ("n",), [ROW])
        for call, things in ((rule.becomes, ("c", "a")), (rule.block, ("....",)), (rule.turned, (8,))):
            with self.assertRaises(ValueError):
                call(*things)
        rows = [ROW, None]
        self.refused(BadRow, {"at": 1}, Rule, "around", 3, ("n",), rows)
        self.assertEqual(rows, [ROW, None])
        self.assertEqual(rule, Rule("around", 3, ("n",), [ROW]))

    def test_asking_and_turning_change_nothing(self):
        rule = Rule("around", 3, ("n",), [ROW])
        for way in WAYS:
            rule.turned(way)
        rule.becomes("a", "b")
        rule.keeps_ground()
        self.assertEqual(rule, Rule("around", 3, ("n",), [ROW]))

    def test_all_is_defined_in_the_class(self):
        for name in ("kind", "many", "near", "rows", "signs", "becomes", "block", "keeps_ground", "turned"):
            self.assertIn(name, vars(Rule))
        self.assertEqual(Rule.__module__, "cellscript.rules")


if __name__ == "__main__":
    unittest.main()
