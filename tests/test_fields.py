"""[30] to [32], [34], and of [3] and [4] what is theirs: fields."""

import unittest
from copy import deepcopy

from cellscript import fields
from cellscript.errors import Fixed, NoCell, TooFar
from cellscript.fields import Field, box, endless, torus
from cellscript.rules import Rule
from tests.support import (
    FAR, LATE, SIGNS, WAYS, Told, cells_of, chance, model_turned, no_cells, no_numbers, no_pictures, no_pieces, no_signs, no_spots,
    no_turns, no_ways, shown, some_picture, told_of, whatever, world_of,
)

CELLS = [(0, 0, "a"), (-2, 1, "b"), (3, -1, "z")]
PICTURE = ["a.b", ".z."]


def some_fields():
    """A field of each sort, and some that are large, small or bare."""
    return [
        endless(CELLS), endless([]), endless([(FAR, -FAR, "a")], turn=3), torus(PICTURE, turn=7), torus(["a"]), torus(["."]),
        torus(["ab"]), torus(["a", "b"]), torus(["." * 32] * 32), box(PICTURE, "c"), box(PICTURE, ".", turn=LATE), box(["."], "a"),
        box(["a"], "a"), torus(["..", ".a"]),
    ]


class Made(Told):
    def test_endless(self):
        field = endless(CELLS, turn=5)
        self.assertEqual(field.kind(), "endless")
        self.assertEqual(field.turn(), 5)
        self.assertIsNone(field.edge())
        self.assertIsNone(field.wide())
        self.assertIsNone(field.high())
        self.assertEqual(field.frame(), (-2, -1, 3, 1))
        self.assertEqual(field.cells(), [(-2, 1, "b"), (0, 0, "a"), (3, -1, "z")])
        self.assertEqual((len(field), repr(field)), (3, "Field(endless, 3)"))

    def test_torus(self):
        field = torus(PICTURE, turn=5)
        self.assertEqual((field.kind(), field.turn(), field.edge()), ("torus", 5, None))
        self.assertEqual((field.wide(), field.high()), (3, 2))
        self.assertEqual(field.frame(), (0, 0, 2, 1))
        self.assertEqual(field.cells(), [(0, 0, "a"), (1, 1, "z"), (2, 0, "b")])
        self.assertEqual((len(field), repr(field)), (3, "Field(torus, 3)"))

    def test_box(self):
        field = box(PICTURE, "c", turn=5)
        self.assertEqual((field.kind(), field.turn(), field.edge()), ("box", 5, "c"))
        self.assertEqual((field.wide(), field.high()), (3, 2))
        self.assertEqual(field.frame(), (0, 0, 2, 1))
        self.assertEqual(field.cells(), [(0, 0, "a"), (1, 1, "z"), (2, 0, "b")])
        self.assertEqual((len(field), repr(field)), (3, "Field(box, 3)"))
        self.assertEqual(box(PICTURE, ".").edge(), ".")

    def test_turns(self):
        for made in (lambda **turn: endless([], **turn), lambda **turn: torus(["a"], **turn), lambda **turn: box(["a"], "b", **turn)):
            self.assertEqual(made().turn(), 0)
            for turn in (0, 1, 2, LATE - 1, LATE):
                self.assertEqual(made(turn=turn).turn(), turn)

    def test_bare_ones(self):
        self.assertEqual(told_of(endless([])), ("endless", 0, None, None, None, None, [], 0, "Field(endless, 0)"))
        self.assertEqual(told_of(torus(["..."])), ("torus", 0, None, 3, 1, None, [], 0, "Field(torus, 0)"))
        self.assertEqual(told_of(box(["."] * 4, "a")), ("box", 0, "a", 1, 4, None, [], 0, "Field(box, 0)"))

    def test_a_box_tells_cells_like_its_edge(self):
        field = box(["aa", "aa"], "a")
        self.assertEqual(field.cells(), [(0, 0, "a"), (0, 1, "a"), (1, 0, "a"), (1, 1, "a")])
        self.assertEqual((field.frame(), len(field)), ((0, 0, 1, 1), 4))

    def test_a_frame_goes_round_no_torus(self):
        self.assertEqual(torus([".....", "a...a", "....."]).frame(), (0, 1, 4, 1))
        self.assertEqual(torus([".....", ".a.b.", "....."]).frame(), (1, 1, 3, 1))
        self.assertEqual(box(["...", "..a"], "b").frame(), (2, 1, 2, 1))

    def test_cells_are_sorted_by_x_then_y(self):
        cells = [(x, y, "a") for x in (2, -1, 10, 0) for y in (5, -3, 0)]
        self.assertEqual(endless(cells).cells(), sorted(cells))
        self.assertEqual(endless(cells[::-1]).cells(), sorted(cells))

    def test_by_chance(self):
        by = chance(12)
        for _ in range(100):
            left, top, wide, high = by.randint(-9, 9), by.randint(-9, 9), by.randint(1, 9), by.randint(1, 9)
            picture = ["".join(by.choice("....az") for _ in range(wide)) for _ in range(high)]
            cells = cells_of(picture, left, top)
            for field, known in ((endless(cells), cells), (torus(picture), cells_of(picture)), (box(picture, "b"), cells_of(picture))):
                self.assertEqual(field.cells(), known)
                self.assertEqual(len(field), len(known))
                xs, ys = [x for x, _, _ in known], [y for _, y, _ in known]
                self.assertEqual(field.frame(), (min(xs), min(ys), max(xs), max(ys)) if known else None)

    def test_all_signs(self):
        self.assertEqual(torus([SIGNS]).cells(), [(at, 0, sign) for at, sign in enumerate(SIGNS) if at > 0])
        for sign in SIGNS:
            self.assertEqual(box(["a"], sign).edge(), sign)

    def test_the_farthest_spots(self):
        for x in (FAR, -FAR):
            for y in (FAR, -FAR):
                field = endless([(x, y, "a")])
                self.assertEqual(field.cells(), [(x, y, "a")])
                self.assertEqual(field.frame(), (x, y, x, y))
                self.assertEqual(field.sign_at(x, y), "a")

    def test_refused(self):
        self.refused_wrong(endless, [[(0, 0, "a")], 3], [no_cells(), no_turns()], ["turn"])
        self.refused_wrong(torus, [["ab"], 3], [no_pictures(), no_turns()], ["turn"])
        self.refused_wrong(box, [["ab"], ".", 3], [no_pictures(), no_signs(), no_turns()], ["turn"])

    def test_behind_the_star_by_name(self):
        for call, things in ((endless, [[], 0]), (torus, [["a"], 0]), (box, [["a"], "a", 0])):
            with self.assertRaises(TypeError):
                call(*things)


class Frames(Told):
    def test_200_wide_and_high(self):
        for reach, refused in ((198, False), (199, False), (200, True), (201, True), (2 * FAR, True)):
            left = -FAR if reach > 300 else -7
            for spots in ([(left, 0, "a"), (left + reach, 0, "b")], [(0, left, "a"), (0, left + reach, "b")]):
                if refused:
                    self.refused(TooFar, {"most": 200}, endless, spots)
                    self.refused(TooFar, {"most": 200}, endless, spots[::-1], turn=4)
                else:
                    self.assertEqual(len(endless(spots)), 2)

    def test_wide_and_high_at_once(self):
        field = endless([(-100, -100, "a"), (99, 99, "b")])
        self.assertEqual(field.frame(), (-100, -100, 99, 99))

    def test_put(self):
        for left, reach, step in ((-7, 199, (1, 0)), (FAR - 200, 199, (0, 1)), (-FAR, 199, (1, 0))):
            one = endless([(left * step[0], left * step[1], "a")])
            near = [(left + reach) * part for part in step]
            far = [(left + reach + 1) * part for part in step]
            self.assertEqual(len(one.put(*near, "b")), 2)
            self.refused(TooFar, {"most": 200}, one.put, *far, "b")
            self.assertEqual(one.put(*far, "."), one)
            back = endless([(near[0], near[1], "a")])
            behind = [(left - 1) * part for part in step]
            if min(behind) >= -FAR:
                self.refused(TooFar, {"most": 200}, back.put, *behind, "b")
            self.assertEqual(len(back.put(left * step[0], left * step[1], "b")), 2)

    def test_wrong_ahead_of_too_far(self):
        field = endless([(0, 0, "a")])
        self.refused_wrong(field.put, [500, 0, "a"], [no_spots(), no_spots(), no_signs()])
        self.refused_wrong(endless, [[(0, 0, "a"), (300, 0, "a")], 0], [no_cells(), no_turns()], ["turn"])

    def test_placed(self):
        one = endless([(0, 0, "a")])
        self.assertEqual(one.placed(["bb"], 198, 0).frame(), (0, 0, 199, 0))
        self.refused(TooFar, {"most": 200}, one.placed, ["bb"], 199, 0)
        self.refused(TooFar, {"most": 200}, one.placed, ["b", "b"], 0, 199)
        self.refused(TooFar, {"most": 200}, one.placed, ["bb"], 0, 199, way=1)
        self.assertEqual(one.placed(["b."], 199, 0).frame(), (0, 0, 199, 0))
        self.assertEqual(one.placed(["b_"], 199, 0).frame(), (0, 0, 199, 0))
        self.assertEqual(one.placed([".."], 500, 0), one)
        self.refused(TooFar, {"most": 200}, one.placed, ["b"], -200, 0)
        self.assertEqual(one.placed(["b"], -199, 0).frame(), (-199, 0, 0, 0))

    def test_ground_makes_a_frame_less(self):
        field = endless([(0, 0, "a"), (199, 0, "b")])
        less = field.put(0, 0, ".")
        self.assertEqual(less.frame(), (199, 0, 199, 0))
        self.assertEqual(less.put(300, 0, "c").frame(), (199, 0, 300, 0))
        self.assertEqual(field.placed(["."], 199, 0).frame(), (0, 0, 0, 0))

    def test_only_endless_ones_have_a_frame_to_hold(self):
        self.assertEqual(torus(["a"]).put(FAR, -FAR, "b").cells(), [(0, 0, "b")])


class Signs(Told):
    def test_endless(self):
        field = endless(CELLS)
        self.assertEqual([field.sign_at(x, y) for x, y, _ in CELLS], ["a", "b", "z"])
        for x, y in ((1, 0), (0, 1), (-2, 0), (-3, 1), (4, -1), (3, -2), (100, 100), (FAR, FAR), (-FAR, -FAR)):
            self.assertEqual(field.sign_at(x, y), ".")
        self.assertEqual(endless([]).sign_at(0, 0), ".")

    def test_torus_goes_round(self):
        field = torus(PICTURE)
        for x in range(-7, 8):
            for y in range(-7, 8):
                self.assertEqual(field.sign_at(x, y), PICTURE[y % 2][x % 3])
        self.assertEqual(field.sign_at(-FAR, FAR), PICTURE[0][-FAR % 3])

    def test_box_has_its_edge_outside(self):
        for edge in (".", "c"):
            field = box(PICTURE, edge)
            for x in range(-4, 7):
                for y in range(-4, 6):
                    inside = 0 <= x < 3 and 0 <= y < 2
                    self.assertEqual(field.sign_at(x, y), PICTURE[y][x] if inside else edge)
            self.assertEqual(field.sign_at(FAR, -FAR), edge)

    def test_refused(self):
        for field in some_fields():
            self.refused_wrong(field.sign_at, [0, 0], [no_spots(), no_spots()])


class Pictures(Told):
    def test_as_they_stand(self):
        for field in some_fields():
            world = world_of(field)
            for left, top in ((0, 0), (-3, -2), (1, 1), (2, -1), (FAR, FAR), (-FAR, -FAR), (FAR - 1, -FAR)):
                for wide, high in ((1, 1), (5, 4), (1, 7), (32, 1), (3, 32)):
                    rows = ["".join(world.at(left + x, top + y) for x in range(wide)) for y in range(high)]
                    self.assertEqual(field.picture(left, top, wide, high), rows)

    def test_examples(self):
        self.assertEqual(endless(CELLS).picture(-2, -1, 6, 3), [".....z", "..a...", "b....."])
        self.assertEqual(torus(["ab"]).picture(-1, 0, 5, 2), ["babab", "babab"])
        self.assertEqual(box(["ab"], "c").picture(-1, -1, 4, 3), ["cccc", "cabc", "cccc"])

    def test_the_largest(self):
        by = chance(13)
        picture = some_picture(by, 27, 32, 32)
        self.assertEqual(torus(picture).picture(0, 0, 32, 32), picture)
        self.assertEqual(box(picture, "a").picture(0, 0, 32, 32), picture)
        self.assertEqual(endless(cells_of(picture, 5, 6)).picture(5, 6, 32, 32), picture)

    def test_refused(self):
        for field in some_fields()[:4] + [box(PICTURE, "c")]:
            sizes = no_numbers(1, 32)
            self.refused_wrong(field.picture, [0, 0, 5, 5], [no_spots(), no_spots(), sizes, sizes])


class Put(Told):
    def look(self, field, told, spots):
        """told is field with the signs of spots, and nothing else is otherwise."""
        world = world_of(field)
        for x, y, sign in spots:
            spot = (x % field.wide(), y % field.high()) if field.kind() == "torus" else (x, y)
            world.signs[spot] = sign
        known = sorted((x, y, sign) for (x, y), sign in world.signs.items() if sign != ".")
        self.assertEqual(told.cells(), known)
        self.assertEqual(
            (told.kind(), told.turn(), told.edge(), told.wide(), told.high()),
            (field.kind(), field.turn(), field.edge(), field.wide(), field.high()),
        )
        self.assertEqual(len(told), len(known))

    def test_put(self):
        for field in (endless(CELLS, turn=3), torus(PICTURE, turn=4), torus(["a"]), endless([])):
            for x in range(-5, 6):
                for y in range(-4, 5):
                    for sign in ".az":
                        known = told_of(field)
                        self.look(field, field.put(x, y, sign), [(x, y, sign)])
                        self.assertEqual(told_of(field), known)

    def test_put_into_a_box(self):
        for edge in (".", "b"):
            field = box(PICTURE, edge, turn=2)
            for x in range(-2, 6):
                for y in range(-2, 5):
                    for sign in ".ab":
                        if 0 <= x < 3 and 0 <= y < 2:
                            self.look(field, field.put(x, y, sign), [(x, y, sign)])
                        else:
                            self.refused(NoCell, {"x": x, "y": y}, field.put, x, y, sign)
            self.refused(NoCell, {"x": FAR, "y": -FAR}, field.put, FAR, -FAR, "a")

    def test_put_far(self):
        field = torus(PICTURE)
        for x, y in ((FAR, FAR), (-FAR, -FAR), (FAR, -FAR)):
            self.look(field, field.put(x, y, "c"), [(x, y, "c")])
            self.look(endless([]), endless([]).put(x, y, "c"), [(x, y, "c")])

    def test_put_by_chance(self):
        by = chance(14)
        field = endless([], turn=9)
        for _ in range(300):
            spot = by.randint(-6, 6), by.randint(-6, 6), by.choice("...ab")
            told = field.put(*spot)
            self.look(field, told, [spot])
            self.assertEqual(told, endless(told.cells(), turn=9))
            field = told

    def test_put_refused(self):
        for field in some_fields():
            self.refused_wrong(field.put, [0, 0, "a"], [no_spots(), no_spots(), no_signs()])
        self.refused_wrong(box(["a"], "a").put, [5, 5, "a"], [no_spots(), no_spots(), no_signs()])

    def test_placed_each_way(self):
        by = chance(15)
        for field in (endless(CELLS, turn=3), endless([]), torus(PICTURE, turn=4), torus(["ab"]), torus(["a" * 32] * 32)):
            for _ in range(12):
                piece = ["".join(by.choice("._abz") for _ in range(3)) for _ in range(2)]
                x, y = by.randint(-6, 6), by.randint(-6, 6)
                for way in WAYS:
                    rows = model_turned(piece, way)
                    spots = [(x + j, y + k, sign) for k, row in enumerate(rows) for j, sign in enumerate(row) if sign != "_"]
                    self.look(field, field.placed(piece, x, y, way=way), spots)
                self.assertEqual(field.placed(piece, x, y), field.placed(piece, x, y, way=0))

    def test_left_alone_and_ground(self):
        field = torus(["aaa", "aaa"])
        self.assertEqual(field.placed(["_.b"], 0, 0).picture(0, 0, 3, 2), ["a.b", "aaa"])
        self.assertEqual(field.placed(["___"], 0, 0), field)
        field = endless([(0, 0, "a"), (1, 0, "a"), (2, 0, "a")])
        self.assertEqual(field.placed(["_.b"], 0, 0).cells(), [(0, 0, "a"), (2, 0, "b")])
        self.assertEqual(field.placed(["..."], 0, 0), endless([]))

    def test_pieces_that_meet_themselves(self):
        self.assertEqual(torus(["."]).placed(["ab", "cd"], 0, 0).cells(), [(0, 0, "d")])
        self.assertEqual(torus([".."]).placed(["abc"], 0, 0).picture(0, 0, 2, 1), ["cb"])
        self.assertEqual(torus([".."]).placed(["abc"], 1, 0).picture(0, 0, 2, 1), ["bc"])
        self.assertEqual(torus([".", "."]).placed(["a", "b", "c", "."], 0, 1).picture(0, 0, 1, 2), [".", "c"])
        self.assertEqual(torus(["zz"]).placed(["ab_"], 0, 0).picture(0, 0, 2, 1), ["ab"])

    def test_placed_in_a_box(self):
        field = box(["....", "....", "...."], "z", turn=6)
        self.look(field, field.placed(["ab", "_c"], 2, 1), [(2, 1, "a"), (3, 1, "b"), (3, 2, "c")])
        self.look(field, field.placed(["_a"], -1, 0), [(0, 0, "a")])
        self.look(field, field.placed(["__", "_a"], 2, 1), [(3, 2, "a")])

    def test_the_first_spot_outside_of_a_box(self):
        field = box(["....", "....", "...."], "z")
        for piece, x, y, way, spot in (
            (["ab"], 3, 0, 0, (4, 0)), (["ab"], -1, 0, 0, (-1, 0)), (["a", "b"], 0, 2, 0, (0, 3)), (["_b", "a_"], 0, -1, 0, (1, -1)),
            (["__", "ab"], 3, 1, 0, (4, 2)), (["ab"], 3, 2, 1, (3, 3)), (["ab", "cd"], 3, 2, 0, (4, 2)), (["_b", "cd"], 3, 2, 0, (4, 2)),
            (["a_", "cd"], 3, 2, 0, (3, 3)), (["...."], 2, 0, 0, (4, 0)), (["ab_"], -2, 0, 4, (-1, 0)), (["a"], FAR, FAR, 0, (FAR, FAR)),
            (["_a"], FAR, 0, 0, (FAR + 1, 0)),
        ):
            self.refused(NoCell, {"x": spot[0], "y": spot[1]}, field.placed, piece, x, y, way=way)

    def test_placed_at_the_farthest_spots(self):
        told = endless([]).placed(["ab", "cd"], FAR, FAR)
        self.assertEqual(told.cells(), [(FAR, FAR, "a"), (FAR, FAR + 1, "c"), (FAR + 1, FAR, "b"), (FAR + 1, FAR + 1, "d")])
        self.assertEqual(told.frame(), (FAR, FAR, FAR + 1, FAR + 1))
        self.assertEqual(told.picture(FAR, FAR, 2, 2), ["ab", "cd"])

    def test_placed_refused(self):
        wrong = [no_pieces(), no_spots(), no_spots(), no_ways()]
        for field in (endless(CELLS), torus(PICTURE), box(["a"], "b")):
            self.refused_wrong(field.placed, [["ab"], 0, 0, 3], wrong, ["way"])
        self.refused_wrong(box(["a"], "b").placed, [["ab"], 5, 5, 3], wrong, ["way"])
        self.refused_wrong(endless(CELLS).placed, [["ab"], 500, 5, 3], wrong, ["way"])
        with self.assertRaises(TypeError):
            endless(CELLS).placed(["a"], 0, 0, 1)


class Moved(Told):
    def test_endless(self):
        field = endless(CELLS, turn=4)
        for dx, dy in ((0, 0), (1, 0), (0, -1), (7, -9), (FAR, -FAR), (-FAR, FAR)):
            told = field.moved(dx, dy)
            self.assertEqual(told.cells(), sorted((x + dx, y + dy, sign) for x, y, sign in CELLS))
            self.assertEqual((told.kind(), told.turn()), ("endless", 4))
        self.assertEqual(endless([]).moved(5, 5), endless([]))

    def test_torus(self):
        for picture in (PICTURE, ["a"], ["ab"], ["a", "b", "c"], ["abc", "def", "ghi", "jkl"]):
            field = torus(picture, turn=4)
            for dx, dy in [(dx, dy) for dx in range(-4, 5) for dy in range(-5, 6)] + [(FAR, -FAR), (-FAR, FAR)]:
                told = field.moved(dx, dy)
                for x in range(field.wide()):
                    for y in range(field.high()):
                        spot = (x + dx) % field.wide(), (y + dy) % field.high()
                        self.assertEqual(told.sign_at(*spot), picture[y][x])
                self.assertEqual((told.kind(), told.turn(), told.wide(), told.high()), ("torus", 4, field.wide(), field.high()))

    def test_torus_to_the_letter(self):
        field = torus(["abc", "def"])
        self.assertEqual(field.moved(1, 0).picture(0, 0, 3, 2), ["cab", "fde"])
        self.assertEqual(field.moved(0, 1).picture(0, 0, 3, 2), ["def", "abc"])
        self.assertEqual(field.moved(-1, 3).picture(0, 0, 3, 2), ["efd", "bca"])

    def test_box(self):
        for field in (box(PICTURE, "."), box(["a"], "b")):
            for dx, dy in ((0, 0), (1, 0), (FAR, FAR)):
                self.refused(Fixed, {}, field.moved, dx, dy)
            self.refused_wrong(field.moved, [0, 0], [no_spots(), no_spots()])

    def test_refused(self):
        for field in some_fields():
            self.refused_wrong(field.moved, [0, 0], [no_spots(), no_spots()])

    def test_beyond_the_farthest_spots(self):
        field = endless([(FAR, 0, "a"), (FAR - 1, 0, "b")]).moved(FAR, -FAR).moved(FAR, -FAR)
        self.assertEqual(field.cells(), [(3 * FAR - 1, -2 * FAR, "b"), (3 * FAR, -2 * FAR, "a")])
        self.assertEqual(field.frame(), (3 * FAR - 1, -2 * FAR, 3 * FAR, -2 * FAR))
        self.assertEqual(field.sign_at(FAR, 0), ".")
        self.assertEqual(field.moved(-FAR, FAR).moved(-FAR, FAR), endless([(FAR, 0, "a"), (FAR - 1, 0, "b")]))
        self.refused(TooFar, {"most": 200}, field.put, FAR, 0, "a")
        self.assertEqual(field.put(FAR, 0, "."), field)
        self.assertEqual(len(field.dated(7)), 2)
        edge = endless([(FAR, 0, "a")]).moved(100, 0)
        self.assertEqual(edge.put(FAR, 0, "b").cells(), [(FAR, 0, "b"), (FAR + 100, 0, "a")])


class Dated(Told):
    def test_dated(self):
        for field in some_fields():
            for turn in (0, 1, 77, LATE):
                told = field.dated(turn)
                self.assertEqual(told.turn(), turn)
                self.assertEqual(told_of(told)[2:], told_of(field)[2:])
                self.assertEqual(told.kind(), field.kind())

    def test_refused(self):
        for field in some_fields():
            self.refused_wrong(field.dated, [0], [no_turns()])


class Equal(Told):
    def test_equal(self):
        for one, other in zip(some_fields(), some_fields()):
            self.assertIs(one == other, True)
            self.assertIs(one != other, False)

    def test_no_two_of_these(self):
        made = some_fields() + [
            endless(CELLS, turn=1), endless(CELLS[:2]), endless([(0, 0, "b"), *CELLS[1:]]), endless([(0, 1, "a"), *CELLS[1:]]),
            torus(PICTURE), torus(PICTURE[::-1]), torus(["a.", "bz", ".."]), torus([*PICTURE, "..."]), torus([row + "." for row in PICTURE]),
            torus(["a.", ".."]), torus(["..", "a."]),
            box(PICTURE, "c", turn=1), box(PICTURE, "."), box([*PICTURE, "..."], "c"), box(["a.c", ".z."], "c"), box(["."], "."),
            endless([], turn=1), torus(["."], turn=1), torus(["...."]), torus(["..", ".."]), torus([".", ".", ".", "."]),
            endless([(0, 0, "a")]), endless([(1, 0, "a")]), endless([(0, 1, "a")]), endless([(0, 0, "b")]), endless([(0, 0, "a"), (1, 0, "a")]),
            endless([(0, 0, "a"), (0, 1, "a")]), endless([(5, 5, "a")]),
        ]
        for at, one in enumerate(made):
            for other in made[at + 1:]:
                self.assertIs(one == other, False, (told_of(one), told_of(other)))
                self.assertIs(one != other, True)

    def test_however_they_came(self):
        self.assertEqual(endless([(0, 0, "a")]).put(0, 0, "."), endless([]))
        self.assertEqual(endless([(5, 5, "a"), (0, 0, "b")]).put(0, 0, "."), endless([(5, 5, "a")]))
        self.assertEqual(endless([]).put(4, -4, "b").put(3, 3, "a"), endless([(3, 3, "a"), (4, -4, "b")]))
        self.assertEqual(endless(CELLS).moved(3, 4).moved(-3, -4), endless(CELLS[::-1]))
        self.assertEqual(torus([".."]).put(1, 0, "a"), torus([".a"]))
        self.assertEqual(box([".."], "a").put(1, 0, "a").dated(5), box([".a"], "a", turn=5))
        self.assertEqual(torus(PICTURE).moved(3, 2), torus(PICTURE))

    def test_to_nothing_else(self):
        for field in (endless([]), torus(["a"]), box(["a"], ".")):
            for thing in [*whatever(), field.cells(), repr(field), Field, told_of(field)]:
                if type(thing) is not Field:
                    self.assertIs(field == thing, False, shown(thing))
                    self.assertIs(field != thing, True, shown(thing))
        self.assertIs(endless([]) == Rule("around", 2, (), []), False)


class NothingIsChanged(Told):
    def test_what_was_handed_in(self):
        cells, picture = list(CELLS), list(PICTURE)
        made = [endless(cells), torus(picture), box(picture, "c")]
        self.assertEqual((cells, picture), (CELLS, PICTURE))
        known = [told_of(field) for field in made]
        cells.append((1, 1, "q"))
        cells[0] = (9, 9, "q")
        picture[0] = "qqq"
        picture.append("qqq")
        self.assertEqual([told_of(field) for field in made], known)
        self.assertEqual([field.sign_at(0, 0) for field in made], ["a", "a", "a"])
        piece = ["ab", "_."]
        told = made[1].placed(piece, 0, 0, way=3)
        self.assertEqual(piece, ["ab", "_."])
        known = told_of(told)
        piece[0] = "zz"
        self.assertEqual(told_of(told), known)

    def test_what_is_told(self):
        for field in some_fields():
            known = told_of(field)
            cells = field.cells()
            cells.append((0, 0, "q"))
            cells[0] = None
            part = field.picture(0, 0, 2, 2)
            again = list(part)
            part[0] = "qq"
            part.clear()
            self.assertEqual(told_of(field), known)
            self.assertEqual(field.picture(0, 0, 2, 2), again)

    def test_each_deed_tells_another_one(self):
        for field in some_fields():
            known = told_of(field)
            x, y = (field.frame() or (0, 0))[:2]
            field.put(x, y, "q")
            field.placed(["q"], x, y)
            if field.kind() != "box":
                field.moved(1, 1)
            field.dated(99)
            self.assertEqual(told_of(field), known)

    def test_a_deed_and_its_field_hold_nothing_in_common(self):
        one = torus(["ab", "cd"])
        for other in (one.moved(0, 0), one.dated(0), one.put(0, 0, "a"), one.placed(["_"], 0, 0)):
            self.assertEqual(other, one)
            other.put(0, 0, "q")
            self.assertEqual(one.picture(0, 0, 2, 2), ["ab", "cd"])

    def test_what_is_refused_changes_nothing(self):
        field = box(["..."], "a")
        known = deepcopy(told_of(field))
        self.refused(NoCell, {"x": 3, "y": 0}, field.placed, ["bcd"], 1, 0)
        self.refused(Fixed, {}, field.moved, 1, 1)
        self.assertEqual(told_of(field), known)
        field = endless([(0, 0, "a")])
        self.refused(TooFar, {"most": 200}, field.placed, ["bc"], 199, 0)
        self.assertEqual(field, endless([(0, 0, "a")]))

    def test_all_is_defined_where_it_is_listed(self):
        for name in ("endless", "torus", "box", "Field"):
            self.assertEqual(getattr(fields, name).__module__, "cellscript.fields")
        for name in (
            "kind", "turn", "edge", "wide", "high", "frame", "sign_at", "cells", "picture", "put", "placed", "moved", "dated",
        ):
            self.assertIn(name, vars(Field))


if __name__ == "__main__":
    unittest.main()
