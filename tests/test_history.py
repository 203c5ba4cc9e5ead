"""[52], [53], [5], [10], and of [3], [4], [9] and [45] what is theirs: histories."""

import unittest

from cellscript import history
from cellscript.errors import CellError, NoCell, NoTurn, Odd, Restless, Strange, TooFar, TooMany
from cellscript.fields import box, endless, torus
from cellscript.history import History
from cellscript.kept import Kept
from cellscript.plain import fits, run, step
from cellscript.rules import Rule
from cellscript.ruletexts import read_rule
from cellscript.undo import undone
from tests.support import (
    BESIDE, LATE, SORTS, Told, World, chance, some_endless, some_field, some_parts, some_picture, told_of, world_of,
)

ALL = "n ne e se s sw w nw"
LIFE = read_rule(f"around 2 {ALL}\n. 3-3=a -> a\na 2-3=a -> a\na -> .")
GROWING = read_rule(f"around 2 {ALL}\n. 1-8=a -> a")
STAYING = read_rule("around 3")
COPYING = read_rule("around 2 w\n.a w=a -> a\n.a -> .")
BLINKING = read_rule("around 2\n. -> a\na -> .")
FLIPPING = read_rule("halves 2 n e s w\n. 1-1=a -> a\n. 3-3=a -> a\na 1-1=a -> .\na 3-3=a -> .")
TURNING = read_rule("blocks 2\na . . . -> .a..\n. a . . -> ...a\n. . . a -> ..a.\n. . a . -> a...")
GLIDER = [(0, 2, "a"), (1, 0, "a"), (1, 2, "a"), (2, 1, "a"), (2, 2, "a")]
KINDS = ("endless", "torus", "box")
FAR_TURNS = (-1, -5, 10 ** 30, -10 ** 30, LATE, LATE + 1)


class Slow:
    """A history of the model: all its worlds are made anew of the first one and the changes."""

    def __init__(self, parts, world):
        self.parts, self.made, self.many, self.changes = parts, world, 0, {}
        self.worlds = self.remade()
        self.reached, self.changed = {}, {}

    def remade(self):
        told, world = [], self.made
        for _ in range(self.many + 1):
            signs = {**world.signs, **self.changes.get(world.turn, {})}
            told.append(World(world.kind, world.turn, signs, world.edge, world.wide, world.high))
            world = told[-1].next(self.parts)
        return told

    def go(self, turns):
        self.many += turns
        self.worlds = self.remade()

    def at(self, turn):
        return self.worlds[turn - self.made.turn]

    def home(self, x, y):
        return (x % self.made.wide, y % self.made.high) if self.made.kind == "torus" else (x, y)

    def change(self, turn, x, y, sign):
        self.reached, self.changed = {}, {}
        if self.at(turn).at(x, y) == sign:
            return 0
        self.changes.setdefault(turn, {})[self.home(x, y)] = sign
        old, self.worlds = self.worlds, self.remade()
        otherwise = [self.otherwise(one, other) for one, other in zip(old, self.worlds)]
        for world, places, ahead in zip(self.worlds, otherwise, [set(), *otherwise]):
            self.changed[world.turn] = sorted(places)
            held = self.changes.get(world.turn, {})
            self.reached[world.turn] = [
                place for place in self.near(ahead) if place not in held and self.reads(world.turn - 1, *place) & ahead
            ]
        return sum(map(len, self.reached.values()))

    def otherwise(self, one, other):
        spots = set(one.signs) | set(other.signs)
        return {(x, y) for x, y in spots if one.at(x, y) != other.at(x, y)}

    def near(self, places):
        """All cells that may read one of these."""
        found = {self.home(x + dx, y + dy) for x, y in places for dx in (-1, 0, 1) for dy in (-1, 0, 1)}
        return sorted((x, y) for x, y in found if self.made.kind != "box" or 0 <= x < self.made.wide and 0 <= y < self.made.high)

    def reads(self, turn, x, y):
        """What a cell reads in a turn."""
        sort, _, near, _ = self.parts
        if sort == "blocks":
            left, top = x - (x + turn) % 2, y - (y + turn) % 2
            block = [(left + dx, top + dy) for dx in (0, 1) for dy in (0, 1)]
            if self.made.kind == "box" and not all(0 <= a < self.made.wide and 0 <= b < self.made.high for a, b in block):
                return {(x, y)}
            return {self.home(a, b) for a, b in block}
        if sort == "halves" and (x + y + turn) % 2 == 1:
            return {(x, y)}
        return {(x, y)} | {self.home(x + BESIDE[place][0], y + BESIDE[place][1]) for place in near}


class Histories(Told):
    def alike(self, one, slow):
        """A history is what the model tells, at all turns."""
        self.assertEqual((one.first(), one.last()), (slow.made.turn, slow.made.turn + slow.many))
        for world in slow.worlds:
            field = one.field(world.turn)
            self.assertEqual(field.cells(), world.cells())
            known = (world.kind, world.turn, world.edge, world.wide, world.high)
            self.assertEqual((field.kind(), field.turn(), field.edge(), field.wide(), field.high()), known)
            self.assertEqual(one.reached(world.turn), slow.reached.get(world.turn, []))
            self.assertEqual(one.changed(world.turn), slow.changed.get(world.turn, []))

    def no_turn(self, one, *turns):
        for turn in turns:
            for call in (one.field, one.reached, one.changed):
                self.refused(NoTurn, {"now": turn}, call, turn)
            self.refused(NoTurn, {"now": turn}, one.change, turn, 0, 0, "a")


class Going(Histories):
    def test_the_field_of_each_turn(self):
        by = chance(70)
        for sort in SORTS:
            for kind in KINDS:
                for _ in range(8):
                    parts = some_parts(by, sort, by.choice((2, 3, 27)), keeps=kind == "endless")
                    rule, field = Rule(*parts), some_field(by, kind, sort, parts[1], by.choice((0, 1, 6, LATE)))
                    one, many = History(rule, field), 0
                    self.assertEqual((one.first(), one.last(), one.field(field.turn())), (field.turn(), field.turn(), field))
                    for turns in (0, by.randint(0, 5), 1, 0, by.randint(0, 9)):
                        self.assertIsNone(one.go(turns))
                        many += turns
                        self.assertEqual((one.first(), one.last()), (field.turn(), field.turn() + many))
                        for at in range(many + 1):
                            self.assertEqual(one.field(field.turn() + at), run(rule, field, at))

    def test_0_to_40_at_once(self):
        for turns in range(41):
            one = History(LIFE, endless(GLIDER))
            one.go(turns)
            self.assertEqual(one.field(turns), run(LIFE, endless(GLIDER), turns))
            self.no_turn(one, turns + 1, -1)

    def test_no_turn(self):
        one = History(LIFE, endless(GLIDER, turn=5))
        self.no_turn(one, 4, 6, 0, *FAR_TURNS)
        one.go(3)
        self.no_turn(one, 4, 9, 0, *FAR_TURNS)
        self.assertEqual([one.field(turn).turn() for turn in (5, 6, 7, 8)], [5, 6, 7, 8])

    def test_not_made(self):
        for rule, field, error, told in (
            (STAYING, torus(["zd"]), Strange, {"sign": "d"}), (STAYING, box(["a"], "c"), Strange, {"sign": "c"}),
            (BLINKING, endless([(0, 0, "b")]), Strange, {"sign": "b"}), (BLINKING, endless([]), Restless, {}),
            (TURNING, torus(["a"]), Odd, {}), (FLIPPING, torus(["a.", "..", ".."]), Odd, {}),
        ):
            self.refused(error, told, History, rule, field)
        for rule, field in ((BLINKING, torus(["a"])), (BLINKING, box(["a"], "a")), (LIFE, endless([(0, 0, "a"), (199, 0, "a")]))):
            self.assertEqual(History(rule, field).field(0), field)

    def test_100_turns_in_all(self):
        for parts in ([40, 40, 20], [40, 40, 19], [1] * 30 + [40, 30], [0, 33, 0, 33, 33]):
            one = History(STAYING, torus(["ab."], turn=3))
            for turns in parts:
                one.go(turns)
            left = 100 - sum(parts)
            for turns in range(left + 1, 41):
                self.refused(TooMany, {"most": 100}, one.go, turns)
                self.assertEqual(one.last(), 3 + sum(parts))
            one.go(left)
            self.assertEqual((one.last(), one.field(103)), (103, torus(["ab."], turn=103)))
            one.go(0)
            self.refused(TooMany, {"most": 100}, one.go, 1)
            self.assertEqual(one.last(), 103)

    def test_refused_as_the_run_of_the_last_field(self):
        one = History(GROWING, endless([(0, 0, "a")]))
        one.go(40)
        one.go(40)
        for turns in (20, 21, 40):
            self.refused(TooFar, {"most": 200}, one.go, turns)
            self.assertEqual(one.last(), 80)
        one.go(19)
        self.refused(TooFar, {"most": 200}, one.go, 1)
        self.refused(TooFar, {"most": 200}, one.go, 2)
        self.assertEqual((one.last(), one.field(99).frame()), (99, (-99, -99, 99, 99)))

    def test_in_parts_let_by_where_it_is_refused_at_one_go(self):
        field = endless([(0, 0, "b"), (150, 0, "b")])
        one = History(STAYING, field)
        self.refused(TooFar, {"most": 200}, one.go, 25)
        for _ in range(4):
            one.go(24)
        self.refused(TooFar, {"most": 200}, one.go, 40)
        self.refused(TooMany, {"most": 100}, one.go, 5)
        self.assertEqual(one.field(96), field.dated(96))

    def test_turns_lead_back(self):
        for rule in (FLIPPING, TURNING):
            for field in (torus(["a.a.", "..a.", "a...", ".aa."]), box(["a.aa.", "..a.a"], "a", turn=1), endless(GLIDER)):
                one = History(rule, field)
                one.go(20)
                for turn in range(one.first(), one.last() + 1):
                    self.assertEqual(undone(rule, one.field(turn), turn - one.first()), field)
                    self.assertEqual(undone(rule, one.field(one.last()), one.last() - turn), one.field(turn))


class Changes(Histories):
    def some_histories(self, seed, times, kinds=KINDS):
        by = chance(seed)
        for sort in SORTS:
            for kind in kinds:
                for _ in range(times):
                    parts = some_parts(by, sort, by.choice((2, 3)), keeps=kind == "endless")
                    field = some_field(by, kind, sort, parts[1], by.choice((0, 1, 2, 7)))
                    if kind == "torus":
                        even = 1 if sort == "around" else 2
                        field = torus(some_picture(by, parts[1], by.randint(1, 4) * even, by.randint(1, 4) * even), turn=field.turn())
                    yield by, parts, History(Rule(*parts), field), Slow(parts, world_of(field))

    def some_change(self, by, many, slow):
        """A place and a sign: near a changed place now and then, on a torus outside of its picture, too."""
        turn = slow.made.turn + by.randint(0, slow.many)
        kind = slow.made.kind
        if kind == "box":
            x, y = by.randrange(slow.made.wide), by.randrange(slow.made.high)
        else:
            x, y = by.randint(-8, 12), by.randint(-8, 12)
        held = [(held, place) for held, places in slow.changes.items() for place in places]
        if held and by.random() < 0.3:
            turn, (x, y) = by.choice(held)
        if kind == "torus" and by.random() < 0.5:
            x += slow.made.wide * by.randint(-2, 2)
        return turn, x, y, by.choice(".ab"[:many])

    def test_many_changes(self):
        total = 0
        for by, parts, one, slow in self.some_histories(71, 14):
            one.go(6)
            slow.go(6)
            for _ in range(12):
                turn, x, y, sign = self.some_change(by, parts[1], slow)
                told = one.change(turn, x, y, sign)
                self.assertIs(type(told), int)
                self.assertEqual(told, slow.change(turn, x, y, sign))
                self.alike(one, slow)
                total += told
                if by.random() < 0.2:
                    one.go(1)
                    slow.go(1)
                    self.alike(one, slow)
        self.assertGreater(total, 10000)

    def test_at_the_first_a_middle_and_the_last_turn(self):
        for by, parts, one, slow in self.some_histories(72, 4):
            one.go(4)
            slow.go(4)
            for at in (0, 2, 4, 4, 0, 1):
                turn, (_, x, y, sign) = slow.made.turn + at, self.some_change(by, parts[1], slow)
                if slow.made.kind == "box":
                    x, y = x % slow.made.wide, y % slow.made.high
                self.assertEqual(one.change(turn, x, y, sign), slow.change(turn, x, y, sign))
                self.alike(one, slow)

    def test_to_the_letter(self):
        one = History(COPYING, endless([(0, 0, "a")], turn=2))
        one.go(3)
        self.assertEqual([one.field(turn).cells() for turn in (2, 3, 4, 5)], [[(x, 0, "a")] for x in range(4)])
        # What is changed is read by itself and by the cell to the east.
        self.assertEqual(one.change(3, 1, 0, "."), 4)
        self.assertEqual([one.field(turn).cells() for turn in (2, 3, 4, 5)], [[(0, 0, "a")], [], [], []])
        self.assertEqual([one.reached(turn) for turn in (2, 3, 4, 5)], [[], [], [(1, 0), (2, 0)], [(2, 0), (3, 0)]])
        self.assertEqual([one.changed(turn) for turn in (2, 3, 4, 5)], [[], [(1, 0)], [(2, 0)], [(3, 0)]])
        self.assertEqual(one.change(5, -3, 7, "a"), 0)
        self.assertEqual([one.reached(turn) for turn in (2, 3, 4, 5)], [[]] * 4)
        self.assertEqual([one.changed(turn) for turn in (2, 3, 4, 5)], [[], [], [], [(-3, 7)]])
        one.go(1)
        self.assertEqual((one.changed(5), one.changed(6), one.reached(6)), ([(-3, 7)], [], []))
        # The cell that has a change at its turn isn't reckoned anew there.
        one.change(4, 2, 0, "a")
        self.assertEqual(one.field(5).cells(), [(-3, 7, "a"), (3, 0, "a")])
        self.assertEqual(one.change(2, 0, 0, "."), 1)
        self.assertEqual([one.reached(turn) for turn in (2, 3, 4)], [[], [(0, 0)], []])
        self.assertEqual(one.field(3).cells(), [])
        self.assertEqual(one.field(4).cells(), [(2, 0, "a")])

    def test_a_sign_that_the_cell_has(self):
        one = History(COPYING, torus(["a..."]))
        one.go(3)
        self.assertEqual(one.change(1, 0, 0, "a"), 4)
        self.assertEqual(one.changed(1), [(0, 0)])
        known = [one.field(turn) for turn in range(4)]
        for turn, x, sign in ((1, 0, "a"), (0, 4, "a"), (2, -1, "."), (3, 3, "a"), (3, 0, ".")):
            self.assertEqual(one.change(turn, x, 5, sign), 0)
            self.assertEqual([one.field(turn) for turn in range(4)], known)
            self.assertEqual([one.changed(turn) + one.reached(turn) for turn in range(4)], [[]] * 4)
        # It was no change: what is changed ahead of it runs through it.
        self.assertEqual(one.field(2).picture(0, 0, 4, 1), [".aa."])
        one.change(2, 2, 0, "a")
        one.change(0, 0, 0, ".")
        self.assertEqual([one.field(turn).picture(0, 0, 4, 1) for turn in range(4)], [["...."], ["a..."], [".a.."], ["..a."]])

    def test_a_sign_that_the_cell_has_is_refused_no_further(self):
        one = History(STAYING, endless([(0, 0, "b"), (150, 0, "b")]))
        for _ in range(3):
            one.go(24)
        self.assertEqual(one.change(0, 0, 0, "b"), 0)
        self.assertEqual(one.change(0, 7, -7, "."), 0)
        self.assertEqual(one.change(10, 10 ** 6, 10 ** 6, "."), 0)
        self.refused(TooFar, {"most": 200}, one.change, 0, 0, 0, "a")
        self.refused(TooFar, {"most": 200}, one.change, 47, 1, 0, "a")
        self.assertEqual(one.change(48, 1, 0, "a"), 24)

    def test_taken_back(self):
        for by, parts, one, slow in self.some_histories(73, 4):
            one.go(5)
            known = [one.field(turn) for turn in range(one.first(), one.last() + 1)]
            for turn in (one.first(), one.first() + 3):
                ahead = one.field(turn).sign_at(0, 0)
                other = "a" if ahead == "." else "."
                many = one.change(turn, 0, 0, other)
                places = [one.changed(now) for now in range(one.first(), one.last() + 1)]
                self.assertEqual(one.change(turn, 0, 0, ahead), many)
                self.assertEqual([one.changed(now) for now in range(one.first(), one.last() + 1)], places)
                self.assertEqual([one.field(now) for now in range(one.first(), one.last() + 1)], known)

    def test_a_change_that_was_taken_back_stands(self):
        one = History(COPYING, endless([(0, 0, "a")]))
        one.go(2)
        one.change(1, 1, 0, ".")
        one.change(1, 1, 0, "a")
        self.assertEqual(one.change(0, 0, 0, "."), 1)
        self.assertEqual(one.reached(1), [(0, 0)])
        self.assertEqual([one.field(turn).cells() for turn in range(3)], [[], [(1, 0, "a")], [(2, 0, "a")]])

    def test_folded(self):
        # On a torus of side 1 and 2 a cell reads one several times: it is reckoned once.
        for wide, high, many in ((1, 1, 1), (2, 1, 2), (1, 2, 2), (2, 2, 4), (3, 1, 3), (3, 3, 9), (4, 4, 9), (4, 2, 6)):
            one = History(GROWING, torus(["." * wide] * high))
            one.go(1)
            self.assertEqual(one.change(0, 7 * wide, -3 * high, "a"), many)
            self.assertEqual(one.changed(0), [(0, 0)])
            self.assertEqual(len(one.reached(1)), many)
            one.change(0, wide - 1 + 5 * wide, 0, "a")
            self.assertEqual(one.changed(0), [(wide - 1, 0)] if wide > 1 else [])

    def test_what_hangs_on_it(self):
        # [10]: behind n turns nothing is otherwise that lies farther than n from what was changed.
        for by, parts, one, slow in self.some_histories(74, 6):
            one.go(5)
            slow.go(5)
            turn, x, y, sign = self.some_change(by, parts[1], slow)
            one.change(turn, x, y, sign)
            for now in range(turn, one.last() + 1):
                for a, b in one.changed(now) + one.reached(now):
                    across, down = abs(a - x), abs(b - y)
                    if slow.made.kind == "torus":
                        across = min((a - x) % slow.made.wide, (x - a) % slow.made.wide)
                        down = min((b - y) % slow.made.high, (y - b) % slow.made.high)
                    self.assertLessEqual(max(across, down), now - turn)
            for now in range(one.first(), turn):
                self.assertEqual(one.changed(now) + one.reached(now), [])

    def test_blocks_that_do_not_lie_wholly_in_a_box(self):
        one = History(TURNING, box(["...", "...", "..."], "."))
        one.go(2)
        self.assertEqual(one.change(0, 2, 2, "a"), 1 + 4)
        self.assertEqual((one.reached(1), one.reached(2)), ([(2, 2)], [(1, 1), (1, 2), (2, 1), (2, 2)]))
        self.assertEqual((one.changed(1), one.changed(2)), ([(2, 2)], [(1, 2)]))
        self.assertEqual(one.change(1, 0, 0, "a"), 1)
        self.assertEqual(one.reached(2), [(0, 0)])
        self.assertEqual(one.change(1, 0, 1, "a"), 1)
        self.assertEqual(one.change(0, 0, 0, "a"), 3)
        self.assertEqual((one.reached(1), one.reached(2)), ([(1, 0), (1, 1)], [(1, 0)]))

    def test_halves_read_themselves_alone_where_they_do_not_turn(self):
        rule = read_rule("halves 3 w\n. w=a -> b")
        one = History(rule, torus(["...."] * 2))
        one.go(1)
        self.assertEqual(one.change(0, 1, 0, "a"), 2)
        self.assertEqual((one.reached(1), one.changed(1)), ([(1, 0), (2, 0)], [(1, 0), (2, 0)]))
        self.assertEqual(one.change(0, 0, 0, "b"), 1)
        self.assertEqual(one.reached(1), [(0, 0)])

    def test_far_off(self):
        one = History(GROWING, endless([]))
        one.go(2)
        self.assertEqual(one.change(0, 10 ** 6, -10 ** 6, "a"), 9 + 25)
        self.assertEqual(one.field(2).frame(), (10 ** 6 - 2, -10 ** 6 - 2, 10 ** 6 + 2, -10 ** 6 + 2))
        self.assertEqual(one.reached(1)[-1], (10 ** 6 + 1, -10 ** 6 + 1))


class Refused(Histories):
    def unchanged(self, one, error, told, *change):
        """A change is refused, and nothing is changed."""
        turns = range(one.first(), one.last() + 1)
        known = [(one.field(turn), one.reached(turn), one.changed(turn)) for turn in turns]
        self.refused(error, told, one.change, *change)
        self.assertEqual([(one.field(turn), one.reached(turn), one.changed(turn)) for turn in turns], known)

    def test_in_order(self):
        one = History(STAYING, box(["ab", ".."], "a"))
        one.go(3)
        one.change(1, 0, 0, "b")
        for turn in (-1, 4, *FAR_TURNS):
            self.unchanged(one, NoTurn, {"now": turn}, turn, 5, 5, "z")
        self.unchanged(one, NoCell, {"x": 2, "y": 0}, 0, 2, 0, "z")
        self.unchanged(one, NoCell, {"x": 0, "y": -1}, 3, 0, -1, "a")
        self.unchanged(one, NoCell, {"x": 5, "y": 5}, 3, 5, 5, "a")
        self.unchanged(one, Strange, {"sign": "z"}, 0, 1, 1, "z")
        self.unchanged(one, Strange, {"sign": "c"}, 3, 1, 1, "c")
        far = History(STAYING, endless([(0, 0, "a")]))
        far.go(1)
        far.change(0, 3, 3, "b")
        self.unchanged(far, NoTurn, {"now": 2}, 2, 500, 0, "z")
        self.unchanged(far, TooFar, {"most": 200}, 0, 200, 0, "z")
        self.unchanged(far, TooFar, {"most": 200}, 1, 200, 0, "a")
        self.unchanged(far, Strange, {"sign": "z"}, 0, 199, 0, "z")
        self.unchanged(far, TooFar, {"most": 200}, 0, 199, 0, "a")
        self.unchanged(far, TooFar, {"most": 200}, 0, 0, -196, "b")
        self.assertEqual(far.change(1, 199, 0, "a"), 0)
        self.assertEqual(far.change(0, 197, 0, "a"), 1)

    def test_as_the_run_to_the_last_turn(self):
        for many in (0, 1, 10, 40):
            one = History(STAYING, endless([(0, 0, "a")]))
            one.go(many)
            for turn in {0, many // 2, many}:
                most = 200 - 2 * (many - turn)
                self.unchanged(one, TooFar, {"most": 200}, turn, 0, most, "a")
                self.unchanged(one, TooFar, {"most": 200}, turn, -most, 0, "a")
                self.assertEqual(one.change(turn, 0, most - 1, "a"), many - turn)
                self.assertEqual(one.change(turn, 0, most - 1, "."), many - turn)

    def test_as_the_runs_of_later_changes(self):
        # The field of turn 10 as it would be is too wide, that of turn 0 isn't.
        one = History(STAYING, endless([(0, 0, "a")]))
        one.go(20)
        one.change(10, 120, 0, "b")
        self.unchanged(one, TooFar, {"most": 200}, 0, -60, 0, "a")
        self.unchanged(one, TooFar, {"most": 200}, 5, 0, 180, "a")
        self.unchanged(one, TooFar, {"most": 200}, 0, -60, 0, "b")
        self.assertEqual(one.change(0, -59, 0, "a"), 20)
        # One put there alone would be too far.
        self.unchanged(one, TooFar, {"most": 200}, 0, -80, 0, "a")
        self.assertEqual(one.change(0, -59, 0, "."), 20)
        self.assertEqual(one.change(10, 120, 0, "."), 10)
        self.assertEqual(one.change(0, -80, 0, "a"), 20)

    def test_later_changes_are_looked_at_whatever_comes_of_this_one(self):
        # In parts more turns were gone than a run of the changed field at turn 1 is let by.
        one = History(STAYING, endless([(0, 0, "a")]))
        one.go(1)
        one.change(1, 150, 0, "b")
        one.go(20)
        one.go(20)
        self.unchanged(one, TooFar, {"most": 200}, 0, 1, 0, "a")
        dying = History(read_rule("around 3\nb -> ."), endless([(0, 0, "a")]))
        dying.go(1)
        dying.change(1, 150, 0, "a")
        dying.go(20)
        dying.go(20)
        self.unchanged(dying, TooFar, {"most": 200}, 0, 3, 0, "b")
        dying.change(21, 150, 0, ".")
        self.assertEqual(dying.change(30, 30, 0, "b"), 1)

    def test_what_goes_makes_room_for_what_comes(self):
        # As it was, the last field is a cell at -100, as it is then, one at 100: neither is too far.
        rule = read_rule(
            "around 8 w e\n. w=ag -> a\n. e=bg -> b\n. w=e -> f\n. w=f -> f\nd w=a -> .\nc -> d\nd -> e\nabefg -> ."
        )
        one = History(rule, endless([(0, 0, "g")]))
        one.go(40)
        one.go(20)
        self.assertEqual(one.change(60, 62, 0, "c"), 0)
        one.go(1)
        one.go(1)
        one.go(38)
        self.assertEqual(one.field(100).cells(), [(-100, 0, "b")])
        one.change(0, 0, 0, ".")
        self.assertEqual(one.field(100).cells(), [(100, 0, "f")])
        self.assertEqual(one.changed(100), [(-100, 0), (100, 0)])

    def test_a_go_that_is_refused_changes_nothing(self):
        one = History(GROWING, endless([(0, 0, "a")]))
        one.go(3)
        one.change(1, 4, 4, "a")
        known = [(one.field(turn), one.reached(turn), one.changed(turn)) for turn in range(4)]
        one.go(0)
        with self.assertRaises(CellError):
            for _ in range(20):
                one.go(40)
        self.assertEqual([(one.field(turn), one.reached(turn), one.changed(turn)) for turn in range(4)], known)
        self.refused(NoTurn, {"now": 10 ** 9}, one.field, 10 ** 9)


class Worlds(Histories):
    """[45]: a history of a field that is moved and dated by what fits the sort is the history, moved and dated so."""

    def test_moved_and_dated(self):
        by = chance(76)
        for sort in SORTS:
            for _ in range(20):
                parts = some_parts(by, sort, 3, keeps=True)
                rule, field = Rule(*parts), some_endless(by, 3, by.randint(0, 3))
                dx, dy, later = by.randint(-9, 9), by.randint(-9, 9), by.randint(0, 5)
                if sort == "halves":
                    dx += (dx + dy + later) % 2
                if sort == "blocks":
                    dx, dy = dx + (dx + later) % 2, dy + (dy + later) % 2
                one, other = History(rule, field), History(rule, field.moved(dx, dy).dated(field.turn() + later))
                one.go(5)
                other.go(5)
                for turn, x, y, sign in ((2, 0, 0, "a"), (0, 1, 1, "b"), (1, 0, 1, "a"), (2, 0, 0, ".")):
                    now = field.turn() + turn
                    self.assertEqual(one.change(now, x, y, sign), other.change(now + later, x + dx, y + dy, sign))
                    for at in range(one.first(), one.last() + 1):
                        self.assertEqual(other.field(at + later), one.field(at).moved(dx, dy).dated(at + later))
                        self.assertEqual(other.reached(at + later), [(x + dx, y + dy) for x, y in one.reached(at)])
                        self.assertEqual(other.changed(at + later), [(x + dx, y + dy) for x, y in one.changed(at)])


class OneRun(Told):
    """[5]: however a field is run, it is the same field, and by one call of each the same refusal."""

    def all_runs(self, rule, field, turns):
        def by_history():
            one = History(rule, field)
            one.go(turns)
            return one.field(one.last())
        return [lambda: run(rule, field, turns), lambda: Kept(rule).run(field, turns), lambda: Kept(rule, most=1).run(field, turns), by_history]

    def test_the_same_field(self):
        by = chance(77)
        for sort in SORTS:
            for kind in KINDS:
                for _ in range(12):
                    parts = some_parts(by, sort, 3, keeps=kind == "endless")
                    rule, field, turns = Rule(*parts), some_field(by, kind, sort, 3, by.randint(0, 3)), by.randint(0, 12)
                    told = [call() for call in self.all_runs(rule, field, turns)]
                    now, one, keeper, at = field, History(rule, field), Kept(rule), 0
                    parted, kept_now = field, field
                    for _ in range(turns):
                        now = step(rule, now)
                    while at < turns:
                        many = by.randint(1, turns - at)
                        one.go(many)
                        parted, kept_now, at = run(rule, parted, many), keeper.run(kept_now, many), at + many
                    self.assertEqual(told + [now, one.field(one.last()), parted, kept_now], [told[0]] * 8)

    def test_the_same_refusal(self):
        for rule, field, turns, error, told in (
            (STAYING, torus(["zd"]), 2, Strange, {"sign": "d"}), (STAYING, box(["a"], "c"), 0, Strange, {"sign": "c"}),
            (BLINKING, endless([]), 0, Restless, {}), (BLINKING, endless([(0, 0, "b")]), 40, Strange, {"sign": "b"}),
            (TURNING, torus(["a.", "..", ".."]), 0, Odd, {}), (FLIPPING, torus(["a"]), 9, Odd, {}),
            (LIFE, endless([(0, 0, "a"), (150, 0, "a")]), 25, TooFar, {"most": 200}),
            (LIFE, endless([(0, 0, "a"), (0, 190, "a")]), 5, TooFar, {"most": 200}),
        ):
            for call in self.all_runs(rule, field, turns):
                self.refused(error, told, call)
        for turns in (24, 4):
            for call in self.all_runs(LIFE, endless([(0, 0, "a"), (150, 0, "a")]), turns):
                call()


class Copies(Histories):
    def test_alike_and_by_itself(self):
        by = chance(75)
        for sort in SORTS:
            parts = some_parts(by, sort, 3, keeps=True)
            field = some_endless(by, 3, 4)
            one, slow = History(Rule(*parts), field), Slow(parts, world_of(field))
            changes = [(5, 0, 0, "a"), (4, 2, 2, "b"), (6, 1, 0, "a"), (4, 1, 1, "a"), (4, 1, 1, "."), (5, 0, 0, "b")]
            one.go(4)
            slow.go(4)
            for change in changes[:4]:
                one.change(*change)
                slow.change(*change)
            other = one.copied()
            self.assertIs(type(other), History)
            self.alike(other, slow)
            for change in changes[4:]:
                self.assertEqual(other.change(*change), slow.change(*change))
            other.go(2)
            slow.go(2)
            self.alike(other, slow)
            self.assertEqual(one.last(), 8)
            again = Slow(parts, world_of(field))
            again.go(4)
            for change in changes[:4]:
                again.change(*change)
            self.alike(one, again)
            one.change(6, 1, 0, ".")
            one.go(1)
            self.alike(other, slow)
            third = other.copied().copied()
            self.alike(third, slow)

    def test_of_100_turns(self):
        one = History(STAYING, torus(["a"]))
        one.go(40)
        one.go(40)
        other = one.copied()
        self.refused(TooMany, {"most": 100}, other.go, 21)
        other.go(20)
        self.assertEqual((one.last(), other.last()), (80, 100))

    def test_of_one_whose_parts_were_let_by(self):
        one = History(STAYING, endless([(0, 0, "b"), (150, 0, "b")]))
        for _ in range(4):
            one.go(24)
        other = one.copied()
        self.assertEqual([other.field(turn) for turn in range(97)], [one.field(turn) for turn in range(97)])


class NothingIsChanged(Histories):
    def test_what_was_told_is_new(self):
        one = History(GROWING, endless([(0, 0, "a")]))
        one.go(2)
        one.change(0, 3, 0, "a")
        for call in (one.reached, one.changed):
            for turn in (0, 1, 2):
                known = list(call(turn))
                told = call(turn)
                told.append((9, 9))
                self.assertEqual(call(turn), known)
                call(turn).clear()
                self.assertEqual(call(turn), known)
        other = one.copied()
        one.changed(1).clear()
        other.reached(2).clear()
        self.assertEqual(other.reached(2), one.reached(2))

    def test_rule_and_field_are_as_they_were(self):
        for rule, field in ((LIFE, endless(GLIDER)), (TURNING, torus(["a...", "...."])), (FLIPPING, box(["a.", ".."], "a"))):
            known, rows = told_of(field), rule.rows()
            one = History(rule, field)
            one.go(6)
            one.change(0, 1, 1, "a")
            later = one.field(3)
            seen = told_of(later)
            one.change(2, 0, 0, "a" if one.field(2).sign_at(0, 0) == "." else ".")
            self.assertEqual((told_of(field), rule.rows(), told_of(later)), (known, rows, seen))

    def test_asking_changes_nothing(self):
        one = History(LIFE, endless(GLIDER))
        one.go(3)
        one.change(1, 5, 5, "a")
        for _ in range(2):
            told = [(one.field(turn), one.reached(turn), one.changed(turn)) for turn in range(4)]
            self.assertEqual(told, [(one.field(turn), one.reached(turn), one.changed(turn)) for turn in range(4)])
            fits(LIFE, one.field(2), 3)

    def test_all_is_defined_in_the_file(self):
        self.assertEqual(history.History.__module__, "cellscript.history")
        for name in ("go", "first", "last", "field", "change", "reached", "changed", "copied"):
            self.assertIn(name, vars(History))


if __name__ == "__main__":
    unittest.main()
