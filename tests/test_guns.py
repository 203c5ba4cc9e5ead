"""[64], [6], and of [3] and [4] what is theirs: cells that shoot."""

import unittest

from cellscript import guns
from cellscript.errors import Restless, Strange
from cellscript.fields import endless
from cellscript.guns import gun_holds, gun_of
from cellscript.patterns import where_at
from cellscript.plain import run
from cellscript.rules import Rule
from cellscript.ruletexts import read_rule
from tests.model_patterns import model_fields, model_gun, model_paper, moved
from tests.support import Hostile, Like, Told, chance, model_spot, nested, shown, whatever

# a, c and d take turns; behind d a shot b begins, which goes to the east.
EAST = read_rule("around 5 w\na -> c\nc -> d\nd -> a\n. w=d -> b\n. w=b -> b\nb -> .")
FIRST = [(0, 0, "a"), (1, 0, "b")]
SHOOTING = ("shooting", 3, [(4, 0, "b")], 1, 1, 0)
BLOCKS = read_rule("blocks 5\na . . . -> c...\nc . . . -> d...\nd . . . -> a..b\nb . . . -> ...b\n. . . b -> b...")
HALVES = read_rule(
    "halves 5 w e\na -> c\nc -> d\nd -> a\n. w=d e=. -> b\n. w=b e=. -> b\nb w=.acd e=b -> ."
)
BLINKING = read_rule("around 2\n. -> a\na -> .")


def parts_of(rule):
    return rule.kind(), rule.many(), rule.near(), rule.rows()


def emitter(many, side="w", shot=()):
    """A rule by which so many signs from a on take turns; behind the last of them z begins, which goes on.

    shot are further rows, ahead of those that tell that z goes on.
    """
    signs = "abcdefghijklm"[:many]
    rows = [f"{one} -> {other}" for one, other in zip(signs, signs[1:] + signs[0])]
    rows += [*shot, f". {side}={signs[-1]} -> z", f". {side}=z -> z", "z -> ."]
    return rows


def slow_gun(p, k, shot, flash=False):
    """A rule of an emitter at 0 of p turns, off which, by its last k turns, something runs to where a shot begins, at k.

    shot tells how the shot, r at first, goes on; with flash something runs ahead of what runs, and is gone then.
    """
    signs = "abcdefghij"[:p]
    runs, ahead = "klmno"[:k - 1], "tuvwx"[:k]
    rows = [f"{one} -> {other}" for one, other in zip(signs, signs[1:] + signs[0])]
    begins, last = signs[p - k], "".join(sorted("." + (ahead if flash else "")))
    for one, other in zip([begins, *runs], [*runs, "r"]):
        rows.append(f"{last} w={one} -> {other}")
    rows += [f"{one} -> ." for one in runs]
    if flash:
        rows += [f". w={one} -> {other}" for one, other in zip([signs[p - k - 1], *ahead], ahead)]
        rows += [f"{one} -> ." for one in ahead]
    return read_rule("\n".join(["around 27 w e", *rows, *SHOTS[shot]]))


# Shots that go one on each turn, each second one, each third one, and those that are broader at one turn: r, s and y.
SHOTS = {
    "quick": [". w=r -> r", "r -> ."],
    "slow": [". w=s -> r", "r -> s", "s -> ."],
    "slower": [". w=q -> r", "r -> s", "s -> q", "q -> ."],
    "ahead": [". w=r -> y", ".y w=s -> r", "r -> s", "sy -> ."],
    "behind": [". e=r -> y", ". w=s -> r", "r -> s", "sy -> ."],
    "both": [". w=r -> y", ". e=r -> y", ".y w=s -> r", "r -> s", "sy -> ."],
}


class Shooting(Told):
    def due(self, rule, cells, told, most=30):
        """What is told of cells, by the model, too."""
        self.assertEqual(gun_of(rule, cells, most), told)
        self.assertEqual(model_gun(parts_of(rule), cells, most), told)

    def follow(self, rule, cells, told):
        """Behind n * p turns there are the first cells and n shots, each p turns further on than the next."""
        _, p, shot, q, dx, dy = told
        many = 1
        while many * p <= 60:
            known = list(cells)
            for at in range(many):
                known += where_at(rule, shot, ("moving", q, dx, dy), at * p)
            self.assertEqual(run(rule, endless(cells), many * p).cells(), sorted(known))
            many += 1

    def test_to_the_letter(self):
        self.due(EAST, FIRST, SHOOTING)
        self.due(EAST, [(0, 0, "c"), (2, 0, "b")], ("shooting", 3, [(5, 0, "b")], 1, 1, 0))
        self.due(EAST, [(0, 0, "d"), (3, 0, "b")], ("shooting", 3, [(6, 0, "b")], 1, 1, 0))
        self.due(EAST, moved(FIRST, 10 ** 6 - 1, -10 ** 6), ("shooting", 3, [(10 ** 6 + 3, -10 ** 6, "b")], 1, 1, 0))
        for cells in (FIRST, [(0, 0, "d"), (3, 0, "b")]):
            self.follow(EAST, cells, gun_of(EAST, cells, 30))

    def test_of_at_most_so_many_turns(self):
        for most in range(1, 31):
            self.assertEqual(gun_of(EAST, FIRST, most), SHOOTING if most >= 3 else None)
        for many, most in ((30, 30), (29, 30), (30, 29), (26, 26), (27, 26)):
            signs = "abcdefghijklmnopqrstuvwxy"
            # A hand of 25 signs and more: its last ones are drawn apart by a second one.
            rule = read_rule("\n".join(["around 27 w", *[f"{one} -> {other}" for one, other in zip(signs, signs[1:] + signs[0])],
                                        ". w=y -> z", ". w=z -> z", "z -> ."]))
            told = gun_of(rule, [(0, 0, "a"), (1, 0, "z")], most)
            self.assertEqual(told, ("shooting", 25, [(26, 0, "z")], 1, 1, 0))
            self.assertIsNone(gun_of(rule, [(0, 0, "a"), (1, 0, "z")], 24))

    def test_to_each_side(self):
        for way in range(8):
            rule, cells = EAST.turned(way), sorted((*model_spot(x, y, way), sign) for x, y, sign in FIRST)
            shot, (dx, dy) = [(*model_spot(4, 0, way), "b")], model_spot(1, 0, way)
            self.due(rule, cells, ("shooting", 3, shot, 1, dx, dy))
            self.follow(rule, cells, ("shooting", 3, shot, 1, dx, dy))
        for way in range(8):
            rule = read_rule("around 5 nw\na -> c\nc -> d\nd -> a\n. nw=d -> b\n. nw=b -> b\nb -> .").turned(way)
            dx, dy = model_spot(1, 1, way)
            cells = sorted([(0, 0, "a"), (dx, dy, "b")])
            self.due(rule, cells, ("shooting", 3, [(4 * dx, 4 * dy, "b")], 1, dx, dy))
            self.follow(rule, cells, ("shooting", 3, [(4 * dx, 4 * dy, "b")], 1, dx, dy))

    def test_by_the_axis_of_the_greater_shift(self):
        # A shot goes one to the south and one to the south east by turns; by x alone it would be too near.
        rows = ["around 6 n nw", "a -> c", "c -> d", "d -> a", ". n=d -> b", ". n=e -> b", ". nw=b -> e", "be -> ."]
        for way in range(8):
            rule = read_rule("\n".join(rows)).turned(way)
            for k in range(1, 4):
                spots = [(0, 0, "a"), (0, 1, "b"), (1, 2, "e"), (1, 3, "b"), (2, 4, "e")]
                cells = sorted((*model_spot(x, y, way), sign) for x, y, sign in spots[:k])
                self.assertEqual(gun_of(rule, cells, 30), model_gun(parts_of(rule), cells, 30))
        hand = ["around 7 n nw", "a -> c", "c -> d", "d -> f", "f -> a", ". n=f -> b", ". n=e -> b", ". nw=b -> e", "be -> ."]
        for way in range(8):
            rule = read_rule("\n".join(hand)).turned(way)
            cells = sorted((*model_spot(x, y, way), sign) for x, y, sign in [(0, 0, "a"), (0, 1, "b")])
            dx, dy = model_spot(1, 2, way)
            told = gun_of(rule, cells, 30)
            self.assertEqual(told, ("shooting", 4, [(*model_spot(2, 5, way), "b")], 2, dx, dy))
            self.assertEqual(told, model_gun(parts_of(rule), cells, 30))
            self.follow(rule, cells, told)

    def test_x_where_both_are_as_great(self):
        # By x the first cells lie too far to the east, by y they don't, and the other way about.
        rule = read_rule("around 6 nw\na -> c\nc -> d\nd -> a\n. nw=d -> b\n. nw=b -> b\nb -> .")
        cells = [(0, 0, "a"), (1, 1, "b")]
        told = ("shooting", 3, [(4, 4, "b")], 1, 1, 1)
        self.due(rule, cells, told)
        self.due(rule, sorted(cells + [(1, -30, "e")]), told)
        self.due(rule, sorted(cells + [(2, -30, "e")]), None)
        self.due(rule, sorted(cells + [(-30, 9, "e")]), told)
        self.due(rule, sorted(cells + [(-30, 1, "e")]), told)

    def test_several_cells(self):
        # A shot of two cells, one below the other, and one of two, one behind the other.
        rule = read_rule("around 5 w\na -> c\nc -> d\nd -> a\n. w=d -> b\n. w=b -> b\nb -> .")
        two = [(0, 0, "a"), (0, 5, "a"), (1, 0, "b"), (1, 5, "b")]
        self.due(rule, two, ("shooting", 3, [(4, 0, "b"), (4, 5, "b")], 1, 1, 0))
        self.due(rule, [(0, 0, "a"), (0, 5, "c"), (1, 0, "b"), (2, 5, "b")], None)
        for many in range(3, 7):
            signs = "abcdefg"[:many]
            rows = [f"{one} -> {other}" for one, other in zip(signs, signs[1:] + signs[0])]
            rule = read_rule("\n".join(["around 27 w", *rows, f".z w={signs[-2:]}z -> z", "z -> ."]))
            cells = [(0, 0, "a"), (1, 0, "z"), (2, 0, "z")]
            told = ("shooting", many, [(many + 1, 0, "z"), (many + 2, 0, "z")], 1, 1, 0) if many >= 4 else None
            self.due(rule, cells, told)
            if told is not None:
                self.follow(rule, cells, told)

    def test_shots_that_touch(self):
        # Shots of one cell that come each second turn have one bare cell between them, not two.
        rule = read_rule("around 27 w\n" + "\n".join(emitter(2)))
        for cells in ([(0, 0, "a"), (1, 0, "z")], [(0, 0, "a"), (1, 0, "z"), (3, 0, "z")], [(0, 0, "b"), (2, 0, "z")]):
            self.due(rule, cells, None)
        self.due(read_rule("around 27 w\n" + "\n".join(emitter(3))), [(0, 0, "a"), (1, 0, "z")], ("shooting", 3, [(4, 0, "z")], 1, 1, 0))
        self.due(read_rule("around 27 w\n" + "\n".join(emitter(1))), [(0, 0, "a"), (1, 0, "z")], None)

    def test_broad_at_one_turn_alone(self):
        # The shot is one cell and two by turns: then two bare ones must be there.
        for many in (2, 4, 6):
            rows = emitter(many, shot=[". w=x -> y", ". w=y -> x", "x -> y"])
            rows = [row.replace("-> z", "-> x") if row.startswith(". w=") and "z" not in row[:8] and many else row for row in rows]
            rule = read_rule("\n".join(["around 27 w", *rows, "y -> ."]))
            for cells in ([(0, 0, "a"), (1, 0, "x")], [(0, 0, "a"), (1, 0, "x"), (2, 0, "y")], [(0, 0, "b"), (1, 0, "y"), (2, 0, "y")]):
                self.assertEqual(gun_of(rule, cells, 30), model_gun(parts_of(rule), cells, 30))

    def test_two_bare_cells_between_shots(self):
        # All else is right: nothing but how broad the shot is at one turn, and how far the next one is, tells.
        cells = [(0, 0, "a")]
        for p, k, shot, told in (
            (6, 3, "slow", True), (6, 4, "slow", True), (4, 3, "slow", False), (6, 4, "ahead", False), (8, 4, "ahead", True), (8, 5, "both", False),
            (10, 5, "both", True), (9, 3, "slower", True), (6, 3, "slower", False), (3, 3, "quick", True), (4, 3, "quick", True),
        ):
            rule = slow_gun(p, k, shot)
            known = ("shooting", p, [(k, 0, "r")], {"quick": 1, "slower": 3}.get(shot, 2), 1, 0)
            self.due(rule, cells, known if told else None)
            if told:
                self.follow(rule, cells, known)

    def test_slow_shots_by_the_model(self):
        told = {}
        for shot in SHOTS:
            for flash in (False, True):
                for k in range(2, 6):
                    for p in range(k + flash, 11):
                        rule = slow_gun(p, k, shot, flash)
                        known = model_gun(parts_of(rule), [(0, 0, "a")], 12)
                        self.assertEqual(gun_of(rule, [(0, 0, "a")], 12), known, (p, k, shot, flash))
                        told[shot, flash, known is not None] = True
        self.assertGreater(len(told), 20)

    def test_near_at_the_last_turn_alone(self):
        # What runs ahead is two from the shot of before just behind 5 turns, three behind 4.
        self.due(slow_gun(6, 4, "slow", True), [(0, 0, "a")], None)
        self.due(slow_gun(8, 4, "slow", True), [(0, 0, "a")], ("shooting", 8, [(4, 0, "r")], 2, 1, 0))

    def test_not_3_beyond(self):
        # The first shot lies 1, 2 and 3 beyond; however many go off, so does the last one of them.
        self.due(EAST, [(0, 0, "a")], None)
        self.due(EAST, [(0, 0, "c")], None)
        self.due(EAST, [(0, 0, "d")], ("shooting", 3, [(3, 0, "b")], 1, 1, 0))
        # Something that stands beside, as far on as the shot but for two, and for three.
        rule = read_rule("around 6 w\na -> c\nc -> d\nd -> a\n. w=d -> b\n. w=b -> b\nb -> .")
        for x, told in ((1, SHOOTING), (2, None), (3, None), (4, None), (-50, SHOOTING)):
            self.due(rule, sorted(FIRST + [(x, 9, "e")]), told)

    def test_not_3_beyond_at_some_turn(self):
        # Beside goes an e, one turn on by x, and one back: it comes two near the shot at that turn alone.
        rule = read_rule("around 8 w e\na -> c\nc -> d\nd -> g\ng -> a\n. w=g -> b\n. w=b -> b\nb -> .\n. w=e -> f\n. e=f -> e\nef -> .")
        for x in range(-3, 7):
            cells = sorted([(0, 0, "a"), (1, 0, "b"), (x, 9, "e")])
            self.assertEqual(gun_of(rule, cells, 30), model_gun(parts_of(rule), cells, 30))
        self.assertEqual(gun_of(rule, sorted([(0, 0, "a"), (1, 0, "b"), (1, 9, "e")]), 30), ("shooting", 4, [(5, 0, "b")], 1, 1, 0))
        # A thing that goes faster than the shot, and dies: only the first cells, behind some turns, reach too far.
        quick = read_rule("around 8 w e\na -> c\nc -> d\nd -> g\ng -> a\n. w=g -> b\n. w=b -> b\nb -> .\n. w=e -> f\nf -> .\ne -> e")
        for x in range(-2, 7):
            for cells in (sorted([(0, 0, "a"), (1, 0, "b"), (x, 9, "e")]), sorted([(0, 0, "a"), (1, 0, "b"), (x, 9, "e"), (x + 1, 9, "f")])):
                self.assertEqual(gun_of(quick, cells, 30), model_gun(parts_of(quick), cells, 30))

    def test_what_does_not_go(self):
        for text, cells in (
            ("around 4 w\n. w=a -> b", [(0, 0, "a")]),  # b stands
            ("around 4 w\n. w=a -> b\nb -> c\nc -> b", [(0, 0, "a")]),  # b turns
            ("around 4 w e\n. w=a -> b\n. w=b -> b\n. e=a -> b\n. e=b -> b\nb -> .", [(0, 0, "a")]),  # both ways
            ("around 2 w\n. w=a -> a\na -> .", [(0, 0, "a")]),  # no cell is left
            ("around 3", [(0, 0, "a")]),  # nothing goes off
        ):
            self.due(read_rule(text), cells, None)
        self.assertIsNone(gun_of(EAST, [], 30))

    def test_turns_that_the_shot_does_not_divide(self):
        # The shot is itself again each second turn, the cells each third: so both are, each sixth, with two shots.
        rows = ["around 27 w", "a -> c", "c -> d", "d -> a", ". w=d -> x", ". w=x -> y", ". w=y -> x", "xy -> ."]
        rule = read_rule("\n".join(rows))
        cells = [(0, 0, "a"), (1, 0, "x")]
        self.due(rule, cells, ("shooting", 6, [(4, 0, "y"), (7, 0, "x")], 2, 2, 0))
        self.follow(rule, cells, gun_of(rule, cells, 30))
        self.assertIsNone(gun_of(rule, cells, 5))
        # Of three signs by turns, and an emitter of three, there is no need to wait.
        rows = ["around 27 w", "a -> c", "c -> d", "d -> a", ". w=d -> x", ". w=x -> y", ". w=y -> z", ". w=z -> x", "xyz -> ."]
        self.due(read_rule("\n".join(rows)), cells, ("shooting", 3, [(4, 0, "x")], 3, 3, 0))

    def test_blocks(self):
        cells = [(0, 0, "a"), (2, 2, "b")]
        self.assertEqual(gun_of(BLOCKS, cells, 30), model_gun(parts_of(BLOCKS), cells, 30))
        seen = []
        for sign in "acd":
            for k in range(0, 7):
                cells = sorted([(0, 0, sign)] + ([(k, k, "b")] if k else []))
                told = gun_of(BLOCKS, cells, 30)
                self.assertEqual(told, model_gun(parts_of(BLOCKS), cells, 30))
                if told is not None:
                    self.follow(BLOCKS, cells, told)
                    seen.append(told)
        self.assertIn(6, [told[1] for told in seen])

    def test_halves(self):
        seen = []
        for sign in "acd":
            for x in (0, 1):
                for k in range(0, 9):
                    for long in (1, 2, 3):
                        cells = sorted([(x, 0, sign)] + [(x + k + at, 0, "b") for at in range(long) if k])
                        told = gun_of(HALVES, cells, 30)
                        self.assertEqual(told, model_gun(parts_of(HALVES), cells, 30))
                        if told is not None:
                            self.follow(HALVES, cells, told)
                            seen.append(told)
        self.assertEqual({told[1] for told in seen}, {6})

    def test_turns_that_do_not_fit(self):
        # By halves and by blocks what is as it was behind odd many turns isn't told.
        for text, sort in (("halves 27 n", "halves"), ("blocks 27", "blocks")):
            rule = read_rule(text)
            self.assertIsNone(gun_of(rule, [(0, 0, "a"), (5, 0, "b")], 30))
        odd = read_rule("blocks 5\na . . . -> a..b\n. . . a -> ...a\nb . . . -> ...b\n. . . b -> b...")
        for cells in ([(0, 0, "a")], [(0, 0, "a"), (1, 1, "b")], [(0, 0, "a"), (2, 2, "b")], [(1, 1, "a"), (2, 2, "b")]):
            self.assertEqual(gun_of(odd, cells, 30), model_gun(parts_of(odd), cells, 30))

    def test_others_too_far_from_each_other(self):
        # The shots of a go north, one to the west of it, those of h one to the east of it.
        rows = ["around 27 s se sw", "a -> c", "c -> d", "d -> a", "h -> i", "i -> j", "j -> h",
                ". se=d -> b", ". sw=j -> b", ". s=b -> b", "b -> ."]
        rule = read_rule("\n".join(rows))
        for way in range(8):
            for wide in (57, 58, 59, 60):
                spots = [(-1, -1, "b"), (0, 0, "a"), (wide, 0, "h"), (wide + 1, -1, "b")]
                cells = sorted((*model_spot(x, y, way), sign) for x, y, sign in spots)
                shot = sorted((*model_spot(x, -4, way), "b") for x in (-1, wide + 1))
                told = ("shooting", 3, shot, 1, *model_spot(0, -1, way)) if wide <= 58 else None
                self.assertEqual(gun_of(rule.turned(way), cells, 30), told)
                self.assertEqual(model_gun(parts_of(rule.turned(way)), cells, 4), told)

    def test_many_cells_in_a_shot(self):
        cells = [(0, y, "a") for y in range(0, 61)] + [(1, y, "b") for y in range(0, 61)]
        told = gun_of(EAST, cells, 3)
        self.assertEqual(told, ("shooting", 3, [(4, y, "b") for y in range(61)], 1, 1, 0))
        self.assertIs(gun_holds(EAST, cells, told), True)

    def test_by_the_model(self):
        by = chance(95)
        found = 0
        for _ in range(160):
            many, side = by.randint(1, 6), by.choice(("w", "n", "nw", "se"))
            shots = by.choice(([], [f". {side}=z -> y", f". {side}=y -> z", "y -> ."], [f". {side}=z -> y", f". {side}=y -> x", f". {side}=x -> z", "xy -> ."]))
            rule = read_rule("\n".join([f"around 27 {side}", *emitter(many, side, shots)]))
            dx, dy = {"w": (1, 0), "n": (0, 1), "nw": (1, 1), "se": (-1, -1)}[side]
            # The cells as they are behind some turns, so that something is on its way.
            cells = run(rule, endless([(0, 0, "a")]), by.randint(0, 8)).cells()
            if by.random() < 0.3:
                cells = sorted(cells + [(by.randint(12, 15) * dx, by.randint(12, 15) * dy, "z")])
            if by.random() < 0.3:
                cells = sorted(cells + [(3 * dx + 5 * dy, 3 * dy - 5 * dx, "q")])
            if by.random() < 0.4:
                cells = [cell for cell in cells if cell[2] != "z" or abs(cell[0]) + abs(cell[1]) < by.randint(2, 9)]
            most = by.choice((3, 6, 12, 30))
            known = model_gun(parts_of(rule), cells, most)
            self.assertEqual(gun_of(rule, cells, most), known)
            if known is not None:
                found += 1
                self.assertIs(gun_holds(rule, cells, known), True)
                self.follow(rule, cells, known)
        self.assertGreater(found, 20)


class Holds(Told):
    def wrong(self, paper):
        """Papers that are otherwise than this one in a part."""
        told = [(other, *paper[1:]) for other in ("moving", "", "Shooting", None, 0, ["shooting"], Hostile(), Like())]
        told += [(paper[0], other, *paper[2:]) for other in (0, 1, 2, 4, 6, 9, 12, 30, 31, -3, 10 ** 30, "3", None, True, [3], Hostile(), Like())]
        shots = [
            [], [(4, 0, "b"), (5, 0, "b")], [(4, 0, "a")], [(5, 0, "b")], [(4, 1, "b")], [[4, 0, "b"]], ((4, 0, "b"),), (4, 0, "b"), "b", None,
            [(4, 0)], [(4, 0, "b", 0)], [(4, False, "b")], [("4", 0, "b")], [(4, 0, None)], [(4, 0, Like())], [(Like(), 0, "b")], [Like()], Like(),
            [Hostile()], [(4, Hostile(), "b")], {(4, 0, "b"): 1}, [(4, 0, "b")] * 2, [[(4, 0, "b")]], [(4, 0, ["b"])], [(4, 0, "b")] * 2500,
        ]
        told += [(*paper[:2], shot, *paper[3:]) for shot in shots]
        told += [(*paper[:3], other, *paper[4:]) for other in (0, 2, 3, -1, True, None, "1", 1 << 90, Hostile(), Like())]
        told += [(*paper[:4], other, paper[5]) for other in (0, 2, 3, -1, True, None, "1", 10 ** 40, Hostile(), Like())]
        told += [(*paper[:5], other) for other in (1, 2, 3, -1, False, None, "0", 10 ** 40, Hostile(), Like())]
        return told + [list(paper), paper[:5], (*paper, 0), (), (paper,), [paper], "shooting", dict(enumerate(paper)), None, True, 3, paper[::-1]]

    def test_the_very_one_and_no_other(self):
        self.assertIs(gun_holds(EAST, FIRST, SHOOTING), True)
        self.assertIs(gun_holds(EAST, FIRST, ("shooting", 3, [(4, 0, "b")], 1, 1, 0)), True)
        for thing in self.wrong(SHOOTING):
            self.assertIs(gun_holds(EAST, FIRST, thing), False, shown(thing))

    def test_of_a_greater_number(self):
        # What is behind 6 turns is the first cells and two shots: that is a paper of no one.
        self.assertIs(gun_holds(EAST, FIRST, ("shooting", 6, [(4, 0, "b"), (7, 0, "b")], 1, 1, 0)), False)
        six = read_rule("around 27 w\na -> c\nc -> d\nd -> a\n. w=d -> x\n. w=x -> y\n. w=y -> x\nxy -> .")
        cells = [(0, 0, "a"), (1, 0, "x")]
        self.assertIs(gun_holds(six, cells, ("shooting", 6, [(4, 0, "y"), (7, 0, "x")], 2, 2, 0)), True)
        self.assertIs(gun_holds(six, cells, ("shooting", 3, [(4, 0, "y")], 2, 2, 0)), False)

    def test_up_to_30_turns(self):
        for many in (24, 25):
            signs = "abcdefghijklmnopqrstuvwxy"[:many]
            rows = [f"{one} -> {other}" for one, other in zip(signs, signs[1:] + signs[0])]
            rule = read_rule("\n".join(["around 27 w", *rows, f". w={signs[-1]} -> z", ". w=z -> z", "z -> ."]))
            paper = ("shooting", many, [(many + 1, 0, "z")], 1, 1, 0)
            self.assertIs(gun_holds(rule, [(0, 0, "a"), (1, 0, "z")], paper), True)
        for many, holds in ((15, True), (16, False)):
            signs = "abcdefghijklmnop"[:many]
            rows = [f"{one} . . . -> {other}..." for one, other in zip(signs, signs[1:])] + [f"{signs[-1]} . . . -> a..z", "z . . . -> ...z", ". . . z -> z..."]
            rule = read_rule("\n".join(["blocks 27", *rows]))
            cells = [(0, 0, "a"), (2, 2, "z")]
            paper = ("shooting", 2 * many, [(2 * many + 2, 2 * many + 2, "z")], 1, 1, 1)
            self.assertEqual(model_fields(parts_of(rule), cells, 2 * many)[-1], sorted([*cells, *paper[2]]))
            self.assertIs(gun_holds(rule, cells, paper), holds)

    def test_of_just_30_turns_and_31(self):
        # a goes to and fro between two d; as c, at the one, it sends a shot down.
        rows = "around 27 w e n\n. w=a -> a\na e=d -> f\na -> .\n. e=b -> b\nb w=d -> c\nb -> .\nc -> a\n. n=c -> z\n. n=z -> z\nz -> .\n"
        for wide, turns, text, holds in ((14, 30, rows + "f -> b", True), (15, 31, rows.replace("-> f", "-> b"), False)):
            rule = read_rule(text.strip("\n"))
            cells = [(0, 0, "d"), (1, 0, "a"), (1, 1, "z"), (wide + 1, 0, "d")]
            paper = ("shooting", turns, [(1, turns + 1, "z")], 1, 0, 1)
            self.assertEqual(model_gun(parts_of(rule), cells, 31), paper)
            self.assertEqual(gun_of(rule, cells, 30), paper if holds else None)
            self.assertIs(gun_holds(rule, cells, paper), holds)

    def test_whatever_is_handed_in(self):
        for thing in whatever() + [nested(50, lambda thing: ("shooting", 3, [thing], 1, 1, 0)), ("shooting", 3, [(4, 0, "b")] * 3000, 1, 1, 0)]:
            for rule, cells in ((EAST, FIRST), (EAST, []), (BLOCKS, [(0, 0, "a")])):
                self.assertIs(gun_holds(rule, cells, thing), False, shown(thing))

    def test_cells_that_do_not_shoot(self):
        self.assertIs(gun_holds(EAST, [(0, 0, "a")], SHOOTING), False)
        self.assertIs(gun_holds(EAST, [], SHOOTING), False)
        self.assertIs(gun_holds(EAST, [(0, 0, "a"), (2, 0, "b")], SHOOTING), False)

    def test_refused_ahead(self):
        self.refused(Strange, {"sign": "e"}, gun_holds, EAST, [(0, 0, "e")], Hostile())
        self.refused(Restless, {}, gun_holds, BLINKING, [], SHOOTING)
        self.refused(Strange, {"sign": "e"}, gun_of, EAST, [(0, 0, "e")], 3)
        self.refused(Restless, {}, gun_of, BLINKING, [(0, 0, "a")], 3)


class NothingIsChanged(Told):
    def test_what_was_handed_in_is_as_it_was(self):
        cells, shot = list(FIRST), [(4, 0, "b")]
        told = gun_of(EAST, cells, 30)
        self.assertIs(gun_holds(EAST, cells, ("shooting", 3, shot, 1, 1, 0)), True)
        self.assertEqual((cells, shot), (FIRST, [(4, 0, "b")]))
        told[2].clear()
        self.assertEqual(gun_of(EAST, cells, 30), SHOOTING)
        self.assertIs(gun_holds(EAST, cells, told), False)

    def test_all_is_defined_in_the_file(self):
        for name in ("gun_of", "gun_holds"):
            self.assertEqual(getattr(guns, name).__module__, "cellscript.guns")

    def test_the_model_is_one(self):
        self.assertEqual(model_paper(parts_of(EAST), [(4, 0, "b")], 3), ("moving", 1, 1, 0))
        self.assertEqual(Rule(*parts_of(EAST)), EAST)


if __name__ == "__main__":
    unittest.main()
