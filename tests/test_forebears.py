"""[70] to [73], [7], and of [3] and [4] what is theirs: pictures on a strip, closed rows, and their forebears."""

import unittest
from itertools import product

from cellscript import forebears
from cellscript.errors import NoForebear, NotAround, Strange, TooMany
from cellscript.fields import box, torus
from cellscript.forebears import forebear, how_many, none_holds, none_of, ring_forebear, ring_how_many
from cellscript.plain import run
from cellscript.rules import Rule
from cellscript.ruletexts import read_rule
from tests.model_strips import columns_of, model_made, rows_of, some_around
from tests.support import SIGNS, Hostile, Like, Told, World, chance, nested, shown, some_parts, some_picture, whatever

ALL = "n ne e se s sw w nw"
LIFE = read_rule(f"around 2 {ALL}\n. 3-3=a -> a\na 2-3=a -> a\na -> .")
STAYING = read_rule("around 2")
SHIFTING = read_rule("around 3 w\n.ab w=. -> .\n.ab w=a -> a\n.ab w=b -> b")
BARE = read_rule("around 2\na -> .")
# A cell becomes a where just one of its two sides is a: of these rows each has as many forebears.
ADDING = read_rule("around 2 w e\n.a 1-1=a -> a\n.a -> .")
TURNING = read_rule("blocks 2\na . . . -> .a..")
FLIPPING = read_rule("halves 2 n\na -> .")
SIZES = ((2, 1), (2, 2), (2, 3), (3, 1), (4, 1))


def model_forebears(parts, edge, rows):
    """All forebears of a picture, in their order, looked for among all pictures."""
    high, wide = len(rows), len(rows[0]) + 2
    columns = ["".join(column) for column in product(SIGNS[:parts[1]], repeat=high)]
    told = []
    for picture in product(columns, repeat=wide):
        found = rows_of(picture, high)
        if model_made(parts, edge, found) == rows:
            told.append(found)
    return told


def model_rings(parts, row):
    """All closed rows that become this one, in their order."""
    told = []
    for signs in product(SIGNS[:parts[1]], repeat=len(row)):
        world = World("torus", 0, {(x, 0): sign for x, sign in enumerate(signs)}, None, len(row), 1)
        if "".join(world.next_sign(parts, x, 0) for x in range(len(row))) == row:
            told.append("".join(signs))
    return told


def model_paper(parts, edge, rows):
    """The sets of states, column by column, to the first that is empty, None where none is."""
    high = len(rows)
    columns = ["".join(column) for column in product(SIGNS[:parts[1]], repeat=high)]
    paper = [sorted(product(columns, repeat=2))]
    for column in columns_of(rows):
        come = {
            (b, c) for a, b in paper[-1] for c in columns
            if columns_of(model_made(parts, edge, rows_of([a, b, c], high))) == [column]
        }
        paper.append(sorted(come))
        if not come:
            return paper
    return None


class Refused(Told):
    def calls(self, rule, edge, rows):
        return [
            (how_many, (rule, edge, rows)), (forebear, (rule, edge, rows, 0)), (forebear, (rule, edge, rows, 10 ** 90)),
            (none_of, (rule, edge, rows)), (none_holds, (rule, edge, rows, None)), (none_holds, (rule, edge, rows, Hostile())),
        ]

    def due(self, error, told, rule, edge, rows):
        for call, things in self.calls(rule, edge, rows):
            self.refused(error, told, call, *things)

    def ring_due(self, error, told, rule, row):
        self.refused(error, told, ring_how_many, rule, row)
        for number in (0, 10 ** 90):
            self.refused(error, told, ring_forebear, rule, row, number)

    def test_not_around(self):
        for rule in (TURNING, FLIPPING, read_rule("blocks 27"), read_rule("halves 27")):
            self.due(NotAround, {}, rule, "z", ["zz", "ab"])
            self.due(NotAround, {}, rule, ".", [""])
            self.ring_due(NotAround, {}, rule, "z")
            self.ring_due(NotAround, {}, rule, ".")

    def test_strange(self):
        rule = read_rule("around 3")
        for edge, rows, sign in (
            ("c", ["ab"], "c"), (".", ["c"], "c"), ("d", ["c"], "c"), ("c", ["d"], "c"), ("a", ["zy", "y."], "y"), ("z", [""], "z"),
            ("z", ["y", "x", "w"], "w"), (".", ["..c"] * 3, "c"),
        ):
            self.due(Strange, {"sign": sign}, rule, edge, rows)
        for row, sign in (("c", "c"), ("abz", "z"), ("zyx.", "x")):
            self.ring_due(Strange, {"sign": sign}, rule, row)

    def test_strange_ahead_of_too_many(self):
        self.due(Strange, {"sign": "j"}, read_rule("around 10"), "j", ["a"])
        self.due(Strange, {"sign": "j"}, read_rule("around 10"), "a", ["k", "j"])
        self.ring_due(Strange, {"sign": "j"}, read_rule("around 10"), "kj")

    def test_too_many_states(self):
        for many in range(2, 28):
            rule = read_rule(f"around {many}")
            for high in (1, 2, 3):
                if (many ** high) ** 2 > 64:
                    self.due(TooMany, {"most": 64}, rule, ".", ["a"] * high)
                    self.due(TooMany, {"most": 64}, rule, "a", [""] * high)
                else:
                    self.assertEqual(how_many(rule, ".", ["a"] * high), (many ** high) ** 2)
                    self.assertIsNone(none_of(rule, ".", ["a"] * high))
            if many > 8:
                self.ring_due(TooMany, {"most": 64}, rule, "a")
            else:
                self.assertEqual(ring_how_many(rule, "a"), 1)

    def test_no_forebear(self):
        for rule, rows in ((LIFE, ["a"]), (LIFE, ["..", "a.", "aa"]), (STAYING, [""]), (BARE, ["a"]), (SHIFTING, ["ab.ba"]), (STAYING, [""] * 3)):
            total = how_many(rule, ".", rows)
            for number in (total, total + 1, 10 ** 9, 10 ** 90, 2 * total + 5):
                self.refused(NoForebear, {"number": number, "total": total}, forebear, rule, ".", rows, number)
            if total:
                forebear(rule, ".", rows, total - 1)
        for rule, row in ((LIFE, "a"), (BARE, "a"), (ADDING, "a.."), (ADDING, "a.a."), (SHIFTING, "ab."), (STAYING, "." * 12)):
            total = ring_how_many(rule, row)
            for number in (total, total + 1, 10 ** 9, 10 ** 90):
                self.refused(NoForebear, {"number": number, "total": total}, ring_forebear, rule, row, number)
            if total:
                ring_forebear(rule, row, total - 1)


class Strips(Told):
    def alike(self, parts, edge, rows):
        """Count, forebears and paper are what the model tells."""
        rule, known = Rule(*parts), model_forebears(parts, edge, rows)
        total = how_many(rule, edge, rows)
        self.assertIs(type(total), int)
        self.assertEqual(total, len(known))
        self.assertEqual([forebear(rule, edge, rows, number) for number in range(total)], known)
        paper = none_of(rule, edge, rows)
        self.assertEqual(paper, model_paper(parts, edge, rows))
        self.assertEqual(paper is None, bool(known))
        if paper is not None:
            self.assertIs(none_holds(rule, edge, rows, paper), True)
        return len(known)

    def test_against_all_pictures(self):
        by = chance(110)
        seen = {}
        for many, high in SIZES:
            most = {2: {1: 5, 2: 2, 3: 1}, 3: {1: 3}, 4: {1: 2}}[many][high]
            for wide in range(most + 1):
                for _ in range(5 if many ** (high * (wide + 2)) < 1000 else 2):
                    parts = some_around(by, many)
                    edge = by.choice(SIGNS[:many])
                    rows = some_picture(by, many, wide, high) if by.random() < 0.3 else model_made(parts, edge, some_picture(by, many, wide + 2, high))
                    count = self.alike(parts, edge, rows)
                    seen[many, high, count > 1] = True
                    seen[count == 0] = True
        self.assertEqual([seen.get((many, high, True)) for many, high in SIZES], [True] * 5)
        self.assertTrue(seen[True])

    def test_life(self):
        for rows in (["a"], ["a", "."], ["a", "a", "a"], [".", "a", "."], ["aa"], [".a", "a."]):
            for edge in ".a":
                self.alike(("around", 2, LIFE.near(), LIFE.rows()), edge, rows)

    def test_each_place_is_seen(self):
        # By each place a rule that looks there alone, with an edge that is otherwise: above, below, beside.
        for place in ALL.split(" "):
            rule = read_rule(f"around 2 {place}\n.a {place}=a -> a\n.a -> .")
            for high, rows in ((1, ["a"]), (1, [".a"]), (2, ["a.", ".a"]), (2, ["aa", ".."]), (3, ["a", ".", "a"]), (3, [".", "a", "a"])):
                for edge in ".a":
                    self.alike(("around", 2, rule.near(), rule.rows()), edge, rows)

    def test_no_columns(self):
        for many, high in SIZES:
            rule, states = read_rule(f"around {many}"), (many ** high) ** 2
            self.assertEqual(how_many(rule, "a", [""] * high), states)
            columns = ["".join(column) for column in product(SIGNS[:many], repeat=high)]
            known = [rows_of(state, high) for state in product(columns, repeat=2)]
            self.assertEqual([forebear(rule, "a", [""] * high, number) for number in range(states)], known)
            self.assertIsNone(none_of(rule, "a", [""] * high))

    def test_the_order_of_the_columns(self):
        # Columns from the first on, each from its top down, not rows.
        self.assertEqual(
            [forebear(STAYING, ".", ["a", "."], number) for number in range(6)],
            [[".a.", "..."], [".a.", "..a"], [".aa", "..."], [".aa", "..a"], [".a.", "a.."], [".a.", "a.a"]],
        )
        self.assertEqual([forebear(SHIFTING, ".", ["ab"], number) for number in (0, 1, 2, 3, 8)], [["ab.."], ["ab.a"], ["ab.b"], ["aba."], ["abbb"]])

    def test_130_columns(self):
        by = chance(111)
        for rule, many, high in ((LIFE, 2, 3), (LIFE, 2, 2), (read_rule("around 8 w e\n.abc w=ab -> c\n. e=gh -> d\nefg w=abc e=def -> a".replace("gh", "g")), 8, 1),
                                 (STAYING, 2, 3), (ADDING, 2, 2)):
            parts = ("around", many, rule.near(), rule.rows())
            for wide in (130, 129, 64):
                source = some_picture(by, many, wide + 2, high)
                rows = model_made(parts, ".", source)
                total = how_many(rule, ".", rows)
                self.assertGreater(total, 0)
                self.assertIsNone(none_of(rule, ".", rows))
                order = [columns_of(forebear(rule, ".", rows, number)) for number in sorted({0, 1 % total, total // 3, total // 2, total - 1})]
                self.assertEqual(order, sorted(order))
                for columns in order:
                    self.assertEqual(len(columns), wide + 2)
                    self.assertEqual(model_made(parts, ".", rows_of(columns, high)), rows)
                self.refused(NoForebear, {"number": total, "total": total}, forebear, rule, ".", rows, total)

    def test_counts_of_any_size(self):
        self.assertEqual(how_many(BARE, ".", ["." * 130] * 3), 2 ** (3 * 132))
        self.assertEqual(how_many(read_rule("around 8\nabcdefg -> ."), "a", ["." * 130]), 8 ** 132)
        for number in (0, 1, 2 ** 200 + 5, 2 ** 396 - 1):
            told = forebear(BARE, ".", ["." * 130] * 3, number)
            self.assertEqual("".join(columns_of(told)), f"{number:0396b}".replace("0", ".").replace("1", "a"))
        self.refused(NoForebear, {"number": 2 ** 396, "total": 2 ** 396}, forebear, BARE, ".", ["." * 130] * 3, 2 ** 396)
        self.assertEqual(how_many(BARE, ".", ["." * 129 + "a"]), 0)
        self.assertEqual(len(none_of(BARE, ".", ["." * 129 + "a"])), 131)

    def test_run_one_turn_between_edges_for_ever(self):
        by = chance(112)
        for _ in range(60):
            many, high = by.choice(SIZES)
            parts, edge, wide = some_around(by, many), by.choice(SIGNS[:many]), by.randint(0, 12)
            rule, rows = Rule(*parts), None
            rows = model_made(parts, edge, some_picture(by, many, wide + 2, high))
            total = how_many(rule, edge, rows)
            told = {}
            for number in sorted({by.randrange(total) for _ in range(5)}):
                found = forebear(rule, edge, rows, number)
                told["".join(columns_of(found))] = number
                later = run(rule, box(found, edge), 1)
                self.assertEqual([row[1:-1] for row in later.picture(0, 0, wide + 2, high)], rows)
            self.assertEqual(sorted(told.values()), [told[key] for key in sorted(told)])


class Papers(Told):
    def papers(self):
        """Pictures that have no forebears, with their papers."""
        by = chance(113)
        found = []
        for many, high in SIZES:
            count = 0
            while count < 6:
                parts = some_around(by, many)
                rule, edge = Rule(*parts), by.choice(SIGNS[:many])
                rows = some_picture(by, many, by.randint(1, 6), high)
                paper = none_of(rule, edge, rows)
                if paper is not None:
                    self.assertEqual(paper, model_paper(parts, edge, rows))
                    found.append((rule, edge, rows, paper))
                    count += 1
        return found

    def test_to_the_letter(self):
        states = [(".", "."), (".", "a"), ("a", "."), ("a", "a")]
        self.assertEqual(none_of(BARE, ".", ["a"]), [states, []])
        self.assertEqual(none_of(BARE, ".", ["..a..a"]), [states, states, states, []])
        self.assertIsNone(none_of(BARE, ".", ["...."]))
        self.assertIsNone(none_of(BARE, ".", [""]))
        both = read_rule("around 2 w\n. w=a -> .\na w=. -> .")
        self.assertEqual(none_of(both, ".", ["aa."]), None)
        self.assertEqual(none_of(both, ".", [".aa"]), None)
        ahead = read_rule("around 2 e\na e=a -> .")
        self.assertEqual(none_of(ahead, ".", ["aa"]), [states, [("a", ".")], []])

    def test_just_where_there_are_none(self):
        by = chance(114)
        told = {}
        for _ in range(150):
            many, high = by.choice(SIZES)
            rule, edge = Rule(*some_around(by, many)), by.choice(SIGNS[:many])
            rows = some_picture(by, many, by.randint(0, 8), high)
            none = how_many(rule, edge, rows) == 0
            told[none] = told.get(none, 0) + 1
            paper = none_of(rule, edge, rows)
            self.assertEqual(paper is not None, none)
            if none:
                self.assertIs(none_holds(rule, edge, rows, paper), True)
                self.assertEqual([paper[-1], [] in paper[:-1]], [[], False])
        self.assertGreater(min(told.values()), 20)

    def test_with_more_states(self):
        by = chance(115)
        held = 0
        for rule, edge, rows, paper in self.papers():
            states = paper[0]
            for at in range(1, len(paper) - 1):
                more = [state for state in states if state not in paper[at]]
                if not more:
                    continue
                other = [list(part) for part in paper]
                other[at] = sorted(paper[at] + [by.choice(more)])
                known = self.shows(rule, edge, rows, other)
                self.assertIs(none_holds(rule, edge, rows, other), known)
                held += known
        self.assertGreater(held, 10)

    def shows(self, rule, edge, rows, paper):
        """Whether a list of rising lists of states shows that there are none, by the document."""
        parts, high = ("around", rule.many(), rule.near(), rule.rows()), len(rows)
        columns = ["".join(column) for column in product(rule.signs(), repeat=high)]
        if paper[0] != sorted(product(columns, repeat=2)) or len(paper) > len(rows[0]) + 1 or paper[-1] != [] or [] in paper[:-1]:
            return False
        for ahead, behind, column in zip(paper, paper[1:], columns_of(rows)):
            come = {(b, c) for a, b in ahead for c in columns if columns_of(model_made(parts, edge, rows_of([a, b, c], high))) == [column]}
            if not come <= set(behind):
                return False
        return True

    def test_a_state_less(self):
        for rule, edge, rows, paper in self.papers():
            for at in range(len(paper) - 1):
                for gone in paper[at][:9]:
                    other = [list(part) for part in paper]
                    other[at].remove(gone)
                    self.assertIs(none_holds(rule, edge, rows, other), False)

    def test_otherwise(self):
        for rule, edge, rows, paper in self.papers():
            state = paper[0][-1]
            for at in range(len(paper)):
                for part in (paper[at][::-1], paper[at] + paper[at][-1:], paper[at][:1] + paper[at], tuple(paper[at]), None, 0, "", {}, Hostile(),
                             [*paper[at][:-1], list(paper[at][-1])] if paper[at] else [list(state)], paper[at] + [("." * 9, "." * 9)],
                             dict.fromkeys(paper[at]), set(paper[at])):
                    if type(part) is list and part == paper[at]:
                        continue
                    other = list(paper)
                    other[at] = part
                    self.assertIs(none_holds(rule, edge, rows, other), False, (at, shown(part)))
                self.assertIs(none_holds(rule, edge, rows, paper[:at] + paper[at + 1:]), False)
                self.assertIs(none_holds(rule, edge, rows, paper[:at] + [[]] + paper[at:]), False)
            for other in (tuple(paper), paper + [[]], paper[:-1], paper + [paper[0]], paper[::-1], [paper], [], [[]], paper[-1], paper[0], [paper[0]], [[], []]):
                self.assertIs(none_holds(rule, edge, rows, other), False)

    def test_a_list_more(self):
        # The same list once more, where nothing else comes of it: but not more lists than columns and one.
        rows = ["..a..a"]
        states = none_of(BARE, ".", ["a"])[0]
        self.assertIs(none_holds(BARE, ".", rows, [states] * 3 + [[]]), True)
        self.assertIs(none_holds(BARE, ".", rows, [states] * 6 + [[]]), True)
        for many in (0, 1, 2, 4, 5, 7, 8):
            self.assertIs(none_holds(BARE, ".", rows, [states] * many + [[]]), False)
        # Behind the first a there is no way on: what is handed in may go on all the same.
        self.assertIs(none_holds(BARE, ".", rows, [states] * 3 + [[states[0]], states, states, []]), True)
        self.assertIs(none_holds(BARE, ".", rows, [states] * 3 + [[states[0]], states, []]), False)
        self.assertIs(none_holds(BARE, ".", ["..a"], [states] * 3 + [[]]), True)
        self.assertIs(none_holds(BARE, ".", ["..a"], [states] * 3 + [[], []]), False)

    def test_of_pictures_that_have_forebears(self):
        for rule, rows in ((LIFE, ["a"]), (STAYING, ["a.a"]), (BARE, ["..."]), (STAYING, [""]), (LIFE, [".", "a", "."])):
            self.assertIsNone(none_of(rule, ".", rows))
            columns = ["".join(column) for column in product(".a", repeat=len(rows))]
            states = sorted(product(columns, repeat=2))
            for paper in ([states, []], [states], [states, states, []], [[]], [], [states] * (len(rows[0]) + 1), [states] * len(rows[0]) + [[]], None):
                self.assertIs(none_holds(rule, ".", rows, paper), False)

    def test_states_of_other_kinds(self):
        states = none_of(BARE, ".", ["a"])[0]
        for state in (["a", "a"], ("a",), ("a", "a", "a"), ("a", 1), ("b", "a"), ("aa", "a"), ("", ""), "aa", ("a", None), ("A", "a"), None, 7, Like(), Hostile(),
                      (Like(), "a"), ("a", Hostile()), ("a", ["a"]), ("a", ("a",)), (b"a", b"a")):
            self.assertIs(none_holds(BARE, ".", ["a"], [states[:3] + [state], []]), False, shown(state))
            self.assertIs(none_holds(BARE, ".", ["a"], [states + [state], []]), False, shown(state))
            self.assertIs(none_holds(BARE, ".", [".a"], [states, [state], []]), False, shown(state))
            self.assertIs(none_holds(BARE, ".", [".a"], [states, states + [state], []]), False, shown(state))
        self.assertIs(none_holds(BARE, ".", [".a"], [states, states, []]), True)

    def test_whatever_is_handed_in(self):
        states = none_of(BARE, ".", ["a"])[0]
        huge = [[states] * 2000, [[("a", "a")] * 3000], [[(".", ".")] * 3000, []], [[] for _ in range(10000)], [["a"] * 10000], [nested(47)],
                [[nested(48, lambda thing: (thing, "a"))], []], nested(50, lambda thing: [thing, []])]
        for thing in whatever() + huge:
            for rule, rows in ((BARE, ["a"]), (BARE, ["a" * 130]), (LIFE, ["a", "a", "a"]), (STAYING, [""])):
                self.assertIs(none_holds(rule, ".", rows, thing), False, shown(thing))


class Rings(Told):
    def test_against_all_rows(self):
        by = chance(116)
        seen = {}
        for many, most in ((2, 8), (3, 5), (4, 4), (5, 3), (8, 2)):
            for long in range(1, most + 1):
                for _ in range(6):
                    parts = some_around(by, many)
                    rule = Rule(*parts)
                    row = some_picture(by, many, long, 1)[0]
                    if by.random() < 0.7:
                        row = run(rule, torus([row]), 1).picture(0, 0, long, 1)[0]
                    known = model_rings(parts, row)
                    total = ring_how_many(rule, row)
                    self.assertIs(type(total), int)
                    self.assertEqual(total, len(known))
                    self.assertEqual([ring_forebear(rule, row, number) for number in range(total)], known)
                    self.refused(NoForebear, {"number": total, "total": total}, ring_forebear, rule, row, total)
                    seen[min(total, 2)] = seen.get(min(total, 2), 0) + 1
        self.assertGreater(min(seen.get(many, 0) for many in (0, 1, 2)), 10)

    def test_each_place_is_seen(self):
        # Above and below a cell is the cell itself; in a row of one all near ones are, in one of two the other is both sides.
        for place in ALL.split(" "):
            rule = read_rule(f"around 2 {place}\n.a {place}=a -> a\n.a -> .")
            parts = ("around", 2, rule.near(), rule.rows())
            for row in ("a", ".", "a.", ".a", "aa", "a..", "a.aa."):
                known = model_rings(parts, row)
                self.assertEqual([ring_forebear(rule, row, number) for number in range(ring_how_many(rule, row))], known)
                self.assertEqual(len(known), 1)
        for many in range(9):
            rule = read_rule(f"around 2 {ALL}\n.a {many}-{many}=a -> a\n.a -> .")
            for row in ("a", ".", "a.", "aa", "..", "a..", "aaa", "a.a."):
                self.assertEqual(ring_how_many(rule, row), len(model_rings(("around", 2, rule.near(), rule.rows()), row)), (many, row))

    def test_rows_of_12(self):
        by = chance(117)
        self.assertEqual(ring_how_many(BARE, "." * 12), 4096)
        self.assertEqual([ring_forebear(BARE, "." * 12, number) for number in (0, 1, 2048, 4095)], ["." * 12, "." * 11 + "a", "a" + "." * 11, "a" * 12])
        wide = read_rule("around 8\nabcdefg -> .")
        self.assertEqual(ring_how_many(wide, "." * 12), 8 ** 12)
        self.assertEqual(ring_forebear(wide, "." * 12, 8 ** 12 - 1), "g" * 12)
        self.assertEqual(ring_forebear(wide, "." * 12, 8 ** 11 + 2), "a" + "." * 10 + "b")
        for many in (2, 3, 8):
            for _ in range(5):
                parts = some_around(by, many)
                rule, row = Rule(*parts), some_picture(by, many, 12, 1)[0]
                row = run(rule, torus([row]), 1).picture(0, 0, 12, 1)[0]
                total = ring_how_many(rule, row)
                told = [ring_forebear(rule, row, number) for number in sorted({0, total // 3, total // 2, total - 1})]
                self.assertEqual(told, sorted(set(told)))
                for one in told:
                    self.assertEqual(run(rule, torus([one]), 1), torus([row], turn=1))
                if many == 2:
                    self.assertEqual(total, len(model_rings(parts, row)))

    def test_none(self):
        for rule, row in ((BARE, "a"), (BARE, "..a"), (ADDING, "a"), (ADDING, "a...")):
            self.assertEqual(ring_how_many(rule, row), 0)
            self.refused(NoForebear, {"number": 0, "total": 0}, ring_forebear, rule, row, 0)


class NothingIsChanged(Told):
    def test_what_was_handed_in_is_as_it_was(self):
        rows = ["aa", ".a", "aa"]
        paper = [[(".", "."), (".", "a"), ("a", "."), ("a", "a")], []]
        known = [list(part) for part in paper]
        for call in (
            lambda: how_many(LIFE, ".", rows), lambda: forebear(LIFE, ".", rows, 0), lambda: none_of(LIFE, ".", rows),
            lambda: none_holds(LIFE, ".", rows, paper), lambda: none_holds(BARE, ".", ["a"], paper),
        ):
            one = call()
            self.assertEqual((rows, paper), (["aa", ".a", "aa"], known))
            self.assertEqual(call(), one)

    def test_what_was_told_is_new(self):
        told = forebear(STAYING, ".", ["a.a"], 3)
        known = list(told)
        told.clear()
        self.assertEqual(forebear(STAYING, ".", ["a.a"], 3), known)
        paper = none_of(BARE, ".", [".a"])
        known = [list(part) for part in paper]
        paper[0].clear()
        paper[1].append(("z", "z"))
        self.assertEqual(none_of(BARE, ".", [".a"]), known)
        paper = none_of(BARE, ".", [".a"])
        self.assertIsNot(paper[0], paper[1])

    def test_rules_are_as_they_were(self):
        by = chance(118)
        rule = Rule(*some_parts(by, "around", 2))
        rows = rule.rows()
        how_many(rule, ".", ["a", "a"])
        ring_how_many(rule, "a.a")
        self.assertEqual(rule.rows(), rows)

    def test_all_is_defined_in_the_file(self):
        for name in ("how_many", "forebear", "none_of", "none_holds", "ring_how_many", "ring_forebear"):
            self.assertEqual(getattr(forebears, name).__module__, "cellscript.forebears")


if __name__ == "__main__":
    unittest.main()
