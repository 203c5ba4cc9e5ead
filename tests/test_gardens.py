"""[74], [7], of [70] and [72], [3] and [4] what is theirs: gardens, and sets that show that there are none."""

import unittest
from itertools import product

from cellscript import gardens
from cellscript.errors import NotAround, Strange, TooMany
from cellscript.forebears import how_many, none_holds, none_of
from cellscript.gardens import garden, no_garden_holds
from cellscript.rules import Rule
from cellscript.ruletexts import read_rule
from tests.model_strips import Sets, all_columns, columns_of, model_made, rows_of, some_around, some_table
from tests.support import SIGNS, Hostile, Like, Told, chance, nested, shown, whatever

ALL = "n ne e se s sw w nw"
LIFE = read_rule(f"around 2 {ALL}\n. 3-3=a -> a\na 2-3=a -> a\na -> .")
STAYING = read_rule("around 2")
BARE = read_rule("around 2\na -> .")
# A cell becomes a where just one of its two sides is a: there is no garden of height 1.
ADDING = read_rule("around 2 w e\n.a 1-1=a -> a\n.a -> .")
SIZES = ((2, 1), (2, 2), (2, 3), (3, 1), (4, 1), (8, 1))
# By chance, with so many sets of states, a garden or none: 120 are kept, another one is too many.
TABLES = {20: ("none", 120), 201: ("none", 121), 81: ("none", 122), 709: ("garden", 120), 337: ("garden", 121), 317: ("garden", 119)}


def parts_of(rule):
    return rule.kind(), rule.many(), rule.near(), rule.rows()


def table(seed):
    by = chance(seed)
    return some_table(by, 3, by.choice((0, 0.03, 0.05, 0.1)))


def first_without(parts, edge, high, most):
    """The first garden among all pictures, by their length up to the most and then by their columns; None without one."""
    columns = all_columns(parts[1], high)
    for long in range(1, most + 1):
        made = {tuple(columns_of(model_made(parts, edge, rows_of(picture, high)))) for picture in product(columns, repeat=long + 2)}
        for picture in product(columns, repeat=long):
            if picture not in made:
                return rows_of(picture, high)
    return None


class Gardens(Told):
    def alike(self, parts, edge, high):
        """What garden tells is what the model tells, which is told, too."""
        word, columns, sets = Sets(parts, edge, high).garden()
        if len(sets) > 120:
            self.refused(TooMany, {"most": 120}, garden, Rule(*parts), edge, high)
        else:
            told = garden(Rule(*parts), edge, high)
            self.assertIs(type(told), tuple)
            self.assertEqual(told, ("none", sets) if word == "none" else ("garden", rows_of(columns, high)))
        return word, columns, sets

    def test_against_all_pictures(self):
        by = chance(140)
        found = {}
        for many, high, most in ((2, 1, 7), (2, 2, 3), (2, 3, 2), (3, 1, 5)):
            for _ in range(12):
                parts, edge = some_around(by, many), by.choice(SIGNS[:many])
                known, told = first_without(parts, edge, high, most), garden(Rule(*parts), edge, high)
                if known is not None:
                    self.assertEqual(told, ("garden", known))
                else:
                    self.assertTrue(told[0] == "none" or len(told[1][0]) > most)
                found[many, high, known is None] = True
        self.assertEqual(len(found), 8)

    def test_against_all_sets(self):
        by = chance(141)
        found = {}
        for many, high in SIZES:
            for _ in range(40):
                word, columns, sets = self.alike(some_around(by, many), by.choice(SIGNS[:many]), high)
                found[many, high, word] = True
                found[high, min(len(columns or ()), 3)] = True
        self.assertEqual(len(found), 2 * 6 + 4 * 3)

    def test_long_gardens_and_many_sets(self):
        found = {}
        for seed in range(60):
            word, columns, sets = self.alike(table(seed), ".", 1)
            found[word, len(columns or ()) > 4, len(sets) > 120] = True
        self.assertLessEqual({("garden", True, False), ("none", False, False), ("none", False, True)}, set(found))

    def test_120_sets_are_kept_and_no_other(self):
        for seed, (word, many) in TABLES.items():
            parts = table(seed)
            known, columns, sets = self.alike(parts, ".", 1)
            self.assertEqual((known, len(sets)), (word, many))
            if word == "none" and many <= 120:
                self.assertIs(no_garden_holds(Rule(*parts), ".", 1, sets), True)
        # A set more is too many although there is a garden, which would be met behind it.
        self.refused(TooMany, {"most": 120}, garden, Rule(*table(337)), ".", 1)
        self.assertEqual(garden(Rule(*table(709)), ".", 1)[0], "garden")

    def test_to_the_letter(self):
        states = [(".", "."), (".", "a"), ("a", "."), ("a", "a")]
        self.assertEqual(garden(BARE, ".", 1), ("garden", ["a"]))
        self.assertEqual(garden(BARE, ".", 2), ("garden", [".", "a"]))
        self.assertEqual(garden(BARE, "a", 3), ("garden", [".", ".", "a"]))
        self.assertEqual(garden(ADDING, ".", 1), ("none", [states]))
        self.assertEqual(garden(STAYING, ".", 1), ("none", [states, [states[0], states[1]], [states[2], states[3]]]))
        going = read_rule("around 2 w\n.a w=. -> .\n.a w=a -> a")
        self.assertEqual(garden(going, ".", 1), ("none", [states]))
        # Each second cell is a where both of its sides are: a, then not a, then a can't be.
        both = read_rule("around 2 w e\n.a w=a e=a -> a\n.a -> .")
        self.assertEqual(garden(both, ".", 1), ("garden", ["a...a"]))
        self.assertEqual(garden(both, "a", 2), ("garden", [".....", "a...a"]))

    def test_the_first_of_the_shortest_by_columns(self):
        # Of these two the first by its columns is the second one by its rows: the lower cell tells less than the upper one.
        lacking = read_rule("around 2 s\na s=. -> .")
        self.assertEqual(garden(lacking, ".", 1), ("garden", ["a"]))
        self.assertEqual(garden(lacking, ".", 2), ("garden", [".", "a"]))
        self.assertEqual(garden(lacking, "a", 2), ("garden", ["a", "."]))
        by = chance(149)
        for _ in range(30):
            parts, edge = some_around(by, 2), by.choice(".a")
            known = first_without(parts, edge, 2, 3)
            if known is not None:
                self.assertEqual(garden(Rule(*parts), edge, 2), ("garden", known))

    def test_the_edge_tells(self):
        for place in ("n", "s", "ne", "sw"):
            rule = read_rule(f"around 2 {place}\n.a {place}=a -> a")
            told = [garden(rule, edge, 1) for edge in ".a"]
            self.assertEqual([one[0] for one in told], ["none", "garden"])
            self.assertEqual(told[1], ("garden", ["."]))

    def test_life(self):
        found = {}
        for high in (1, 2, 3):
            for edge in ".a":
                word, columns, sets = self.alike(parts_of(LIFE), edge, high)
                found[high, word, len(sets) > 120] = True
        self.assertEqual(found.get((1, "garden", False)), True)

    def test_a_garden_has_a_paper_and_what_goes_ahead_has_forebears(self):
        by = chance(142)
        for seed in range(40):
            many, high = by.choice(SIZES)
            parts, edge = (table(seed), ".") if seed % 2 else (some_around(by, many), by.choice(SIGNS[:many]))
            high, rule = 1 if seed % 2 else high, Rule(*parts)
            word, columns, sets = Sets(parts, edge, high).garden()
            if word == "none" or len(sets) > 120:
                continue
            rows = garden(rule, edge, high)[1]
            paper = none_of(rule, edge, rows)
            self.assertEqual(len(paper), len(columns) + 1)
            self.assertIs(none_holds(rule, edge, rows, paper), True)
            for _ in range(10):
                at = by.randrange(len(columns))
                ahead = [*columns[:at], *[column for column in by.choices(all_columns(rule.many(), high), k=len(columns) - at - 1)]]
                self.assertGreater(how_many(rule, edge, rows_of(ahead, high) if ahead else [""] * high), 0)
                least = [column for column in all_columns(rule.many(), high) if column < columns[at]]
                if least:
                    ahead = [*columns[:at], by.choice(least), *by.choices(all_columns(rule.many(), high), k=len(columns) - at - 1)]
                    self.assertGreater(how_many(rule, edge, rows_of(ahead, high)), 0)

    def test_where_there_is_none_each_picture_has_a_forebear(self):
        by = chance(143)
        seen = {}
        for _ in range(300):
            many, high = by.choice(SIZES)
            parts, edge = some_around(by, many), by.choice(SIGNS[:many])
            told = garden(Rule(*parts), edge, high)
            if told[0] != "none":
                continue
            seen[many, high] = True
            self.assertIs(no_garden_holds(Rule(*parts), edge, high, told[1]), True)
            for long in (1, 2, 5, 40):
                rows = ["".join(by.choice(SIGNS[:many]) for _ in range(long)) for _ in range(high)]
                self.assertGreater(how_many(Rule(*parts), edge, rows), 0)
        self.assertGreater(len(seen), 4)


class Sorts(Told):
    def due(self, error, told, rule, edge, high):
        self.refused(error, told, garden, rule, edge, high)
        for sets in ([], None, Hostile(), [[("", "")]], [[]]):
            self.refused(error, told, no_garden_holds, rule, edge, high, sets)

    def test_not_around(self):
        for rule in (read_rule("blocks 2\na . . . -> .a.."), read_rule("halves 2 n\na -> ."), read_rule("blocks 27"), read_rule("halves 27")):
            for edge in ".z":
                for high in (1, 2, 3):
                    self.due(NotAround, {}, rule, edge, high)

    def test_strange(self):
        for many in range(2, 27):
            for sign in (SIGNS[many], "z"):
                for high in (1, 2, 3):
                    self.due(Strange, {"sign": sign}, read_rule(f"around {many}"), sign, high)

    def test_too_many_states(self):
        for many in range(2, 28):
            rule = read_rule(f"around {many}")
            for high in (1, 2, 3):
                if many ** high > 8:
                    self.due(TooMany, {"most": 64}, rule, SIGNS[many - 1], high)
                else:
                    word, sets = garden(rule, ".", high)
                    self.assertEqual((word, len(sets), len(sets[0])), ("none", many ** high + 1, (many ** high) ** 2))
                    self.assertIs(no_garden_holds(rule, SIGNS[many - 1], high, sets), True)
        self.due(TooMany, {"most": 64}, STAYING, ".", 4)


class Shown(Told):
    def shown(self, parts, edge, high, sets):
        """Whether there is no garden is told of sets as the model tells it, which is told, too."""
        known = Sets(parts, edge, high).show(sets)
        self.assertIs(no_garden_holds(Rule(*parts), edge, high, sets), known)
        return known

    def some(self, by, many=300):
        """Rules' parts, edges, heights and the sets by which there is no garden, by chance."""
        for _ in range(many):
            signs, high = by.choice(SIZES[:5])
            parts, edge = (some_around(by, signs), by.choice(SIGNS[:signs])) if by.random() < 0.7 else (table(by.randrange(200)), ".")
            high = high if parts[1] == signs and parts[2] != ("w", "e") else 1
            word, _, sets = Sets(parts, edge, high).garden()
            if word == "none" and len(sets) <= 120:
                yield parts, edge, high, [list(states) for states in sets]

    def test_those_that_are_told_and_one_left_out(self):
        by = chance(144)
        found = {}
        for parts, edge, high, sets in self.some(by):
            self.assertTrue(self.shown(parts, edge, high, sets))
            for at in by.sample(range(len(sets)), min(3, len(sets))):
                known = self.shown(parts, edge, high, sets[:at] + sets[at + 1:])
                found[at == 0, known] = True
        self.assertEqual(sorted(found), [(False, False), (False, True), (True, False)])

    def test_in_another_order(self):
        by = chance(145)
        for parts, edge, high, sets in self.some(by, 100):
            rest = sets[1:]
            by.shuffle(rest)
            self.assertTrue(self.shown(parts, edge, high, sets[:1] + rest))
            self.assertTrue(self.shown(parts, edge, high, sets[:1] + rest + rest))
            self.assertTrue(self.shown(parts, edge, high, sets[:1] * 2 + rest))
            if rest and rest[-1] != sets[0]:
                self.assertFalse(self.shown(parts, edge, high, rest + sets[:1]))

    def test_with_more_sets_and_more_states(self):
        by = chance(146)
        found = {}
        for parts, edge, high, sets in self.some(by):
            every = sets[0]
            # One more that is some of the states: what comes of it may hold none of the others.
            more = sorted(by.sample(every, by.randint(1, len(every))))
            found["more", self.shown(parts, edge, high, sets + [more])] = True
            if len(sets) > 1:
                at = by.randrange(1, len(sets))
                other = [state for state in every if state not in sets[at]]
                if other:
                    wider = sorted(sets[at] + [by.choice(other)])
                    found["wider", self.shown(parts, edge, high, sets[:at] + [wider] + sets[at + 1:])] = True
                if len(sets[at]) > 1:
                    lost = by.choice(sets[at])
                    fewer = [state for state in sets[at] if state != lost]
                    found["fewer", self.shown(parts, edge, high, sets[:at] + [fewer] + sets[at + 1:])] = True
        self.assertEqual(len(found), 6)

    def test_fewer_than_are_told(self):
        # Of a rule by which all stays: the sets where a column stands second, and of these any one state.
        states = [(".", "."), (".", "a"), ("a", "."), ("a", "a")]
        least = [states, [states[0], states[1]], [states[2], states[3]]]
        self.assertIs(no_garden_holds(STAYING, ".", 1, least), True)
        self.assertIs(no_garden_holds(STAYING, ".", 1, least[:2]), False)
        self.assertIs(no_garden_holds(STAYING, ".", 1, [states]), False)
        self.assertIs(no_garden_holds(ADDING, ".", 1, [states]), True)
        self.assertIs(no_garden_holds(ADDING, ".", 1, [states, states[1:]]), Sets(parts_of(ADDING), ".", 1).show([states, states[1:]]))

    def test_where_there_is_a_garden_nothing_shows_that_there_is_none(self):
        by = chance(147)
        for rule, high in ((BARE, 1), (BARE, 2), (LIFE, 1), (Rule(*table(709)), 1)):
            sets = Sets(parts_of(rule), ".", high)
            told = [[states] for states in (sets.all,)] + [sets.garden()[2], [sets.all] + [[state] for state in sets.all]]
            for _ in range(20):
                told.append([sets.all] + [sorted(by.sample(sets.all, by.randint(1, len(sets.all)))) for _ in range(by.randint(0, 9))])
            for one in told:
                self.assertFalse(self.shown(parts_of(rule), ".", high, one))

    def test_empty_lists(self):
        states = Sets(parts_of(ADDING), ".", 1).all
        for sets in ([], [[]], [states, []], [[], states], [states, states, []]):
            self.assertIs(no_garden_holds(ADDING, ".", 1, sets), False)

    def test_the_first_one_is_that_of_all(self):
        states = Sets(parts_of(ADDING), ".", 1).all
        self.assertIs(no_garden_holds(ADDING, ".", 1, [states[1:], states]), False)
        self.assertIs(no_garden_holds(ADDING, ".", 1, [states[:3]]), False)
        self.assertIs(no_garden_holds(ADDING, ".", 1, [states, states]), True)

    def test_lists_that_do_not_rise(self):
        states = Sets(parts_of(ADDING), ".", 1).all
        for wrong in (states[::-1], states + states[-1:], states[:1] + states, [states[1], states[0], states[2], states[3]]):
            self.assertIs(no_garden_holds(ADDING, ".", 1, [wrong]), False)
            self.assertIs(no_garden_holds(ADDING, ".", 1, [states, wrong]), False)

    def test_states_of_other_kinds(self):
        states = Sets(parts_of(ADDING), ".", 1).all
        for state in (["a", "a"], ("a",), ("a", "a", "a"), ("a", 1), ("b", "b"), ("aa", "aa"), ("", ""), "aa", ("a", None), ("a", "b"), None, 7, Like(),
                      Hostile(), ("a", Like()), (Hostile(), "a"), ("a", ["a"]), ("a", ("a",)), (b"a", b"a"), ("z", "z"), {"a": "a"}, ("a", "A")):
            for sets in ([states + [state]], [states[:3] + [state]], [states, [state]], [states, states + [state]], [[state]], [states, states, [state]]):
                self.assertIs(no_garden_holds(ADDING, ".", 1, sets), False, shown(state))
        for sets in (tuple([states]), [tuple(states)], {0: states}, [states, tuple(states)], [states, {"a": "a"}], [states, None], [states, "ab"], states, [[states]]):
            self.assertIs(no_garden_holds(ADDING, ".", 1, sets), False, shown(sets))

    def test_states_of_another_height(self):
        tall = Sets(parts_of(BARE), ".", 2).all
        flat = Sets(parts_of(BARE), ".", 1).all
        rule = STAYING
        for high, right, wrong in ((1, garden(rule, ".", 1)[1], tall), (2, garden(rule, ".", 2)[1], flat)):
            self.assertIs(no_garden_holds(rule, ".", high, right), True)
            self.assertIs(no_garden_holds(rule, ".", high, [wrong]), False)
            self.assertIs(no_garden_holds(rule, ".", high, right + [wrong]), False)
            self.assertIs(no_garden_holds(rule, ".", 3 - high, right), False)

    def test_whatever_is_handed_in(self):
        states = Sets(parts_of(ADDING), ".", 1).all
        huge = [
            [states] * 700, [states * 800], [states] + [[state] for state in states] * 700, [[] for _ in range(10000)], [["a"] * 10000],
            [nested(49)], [states, nested(48)], [[nested(47, lambda thing: (thing, "a"))]], [states, [nested(47, lambda thing: ("a", thing))]],
        ]
        for thing in whatever() + huge[1:2] + huge[3:]:
            for rule, high in ((ADDING, 1), (LIFE, 3), (STAYING, 2)):
                self.assertIs(no_garden_holds(rule, ".", high, thing), False, shown(thing))
        self.assertIs(no_garden_holds(ADDING, ".", 1, huge[0]), True)
        # Of one state there comes at most one for each sign of the next column.
        self.assertIs(no_garden_holds(ADDING, ".", 1, huge[2]), Sets(parts_of(ADDING), ".", 1).show(huge[2][:5]))

    def test_ten_thousand_parts_that_hold(self):
        by = chance(148)
        rule, sets = read_rule("around 8 e\n" + "\n".join(f".abcdefg e={sign} -> {sign}" for sign in ".abcdefg")), []
        every = Sets(parts_of(rule), ".", 1).all
        while sum(3 * len(states) + 1 for states in sets) < 9500:
            sets.append(sorted(by.sample(every, 2)))
        known = [every] + [[(one, sign) for one in ".abcdefg"] for sign in ".abcdefg"] + sets
        self.assertIs(no_garden_holds(rule, ".", 1, known), Sets(parts_of(rule), ".", 1).show(known[:9]) and all(
            any(set(part) <= {(b, column) for _, b in states} for part in known) for states in sets for column in ".abcdefg"
        ))


class NothingIsChanged(Told):
    def test_what_was_handed_in_is_as_it_was(self):
        sets = garden(STAYING, ".", 2)[1]
        known = [list(states) for states in sets]
        self.assertIs(no_garden_holds(STAYING, ".", 2, sets), True)
        self.assertEqual(sets, known)
        sets.append([("z", "z")])
        self.assertIs(no_garden_holds(STAYING, ".", 2, sets), False)
        self.assertEqual(sets, known + [[("z", "z")]])
        for rule in (LIFE, ADDING):
            rows = rule.rows()
            garden(rule, ".", 1)
            self.assertEqual(rule.rows(), rows)

    def test_what_was_told_is_new(self):
        for rule in (STAYING, BARE):
            known = garden(rule, ".", 2)
            told = garden(rule, ".", 2)
            for part in told[1]:
                if isinstance(part, list):
                    part.clear()
            told[1].clear()
            self.assertEqual(garden(rule, ".", 2), known)
            self.assertNotEqual(told, known)

    def test_all_is_defined_in_the_file(self):
        for name in ("garden", "no_garden_holds"):
            self.assertEqual(getattr(gardens, name).__module__, "cellscript.gardens")


if __name__ == "__main__":
    unittest.main()
