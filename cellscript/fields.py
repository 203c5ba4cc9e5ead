"""Fields: endless, round a torus or in a box; each deed tells another one."""

from cellscript.errors import Fixed, NoCell, TooFar
from cellscript.kinds import GROUND, is_from_to, is_sign, is_spot, is_turn, is_way, refuse_wrong
from cellscript.pictures import MOST, is_picture, is_piece, spots_of, turned, without_ground

MOST_WIDE = 200


def endless(cells, *, turn=0):
    """An endless field of cells, tuples (x, y, sign)."""
    refuse_wrong(_are_cells(cells), is_turn(turn))
    return Field("endless", turn, None, 0, 0, []).laid(cells)


def torus(picture, *, turn=0):
    """A field of a picture that goes round."""
    refuse_wrong(is_picture(picture), is_turn(turn))
    return Field("torus", turn, None, 0, 0, picture)


def box(picture, edge, *, turn=0):
    """A field of a picture with a sign all around it."""
    refuse_wrong(is_picture(picture), is_sign(edge), is_turn(turn))
    return Field("box", turn, edge, 0, 0, picture)


def _is_cell(thing):
    if not isinstance(thing, tuple) or len(thing) != 3:
        return False
    x, y, sign = thing
    return is_spot(x) and is_spot(y) and is_sign(sign) and sign != GROUND


def _are_cells(thing):
    if not isinstance(thing, list) or not all([_is_cell(cell) for cell in thing]):
        return False
    return len({(x, y) for x, y, _ in thing}) == len(thing)


def grown(left, top, rows, spots):
    """(left, top, rows) of rows at (left, top), widened by ground to hold all spots that aren't ground."""
    solid = [(x, y) for x, y, sign in spots if sign != GROUND]
    across = [x for x, _ in solid]
    down = [y for _, y in solid]
    if rows != []:
        across.extend([left, left + len(rows[0]) - 1])
        down.extend([top, top + len(rows) - 1])
    if across == []:
        return left, top, rows
    new_left, new_top = min(across), min(down)
    wide, high = max(across) - new_left + 1, max(down) - new_top + 1
    # What is too far isn't written out: it may be a million cells wide.
    if wide > MOST_WIDE or high > MOST_WIDE:
        raise TooFar(MOST_WIDE)
    told = [GROUND * wide for _ in range(high)]
    for at, row in enumerate(rows):
        told[top - new_top + at] = (GROUND * (left - new_left) + row).ljust(wide, GROUND)
    return new_left, new_top, told


class Field:
    """A field: its rows stand at (left, top), of an endless one without ground at their sides."""

    def __init__(self, sort, turn, edge, left, top, rows):
        self._sort = sort
        self._turn = turn
        self._edge = edge
        self._left = left
        self._top = top
        self._rows = list(rows)

    def kind(self):
        """The sort: endless, torus or box."""
        return self._sort

    def turn(self):
        """The turn."""
        return self._turn

    def edge(self):
        """The sign outside of a box, else None."""
        return self._edge

    def wide(self):
        """The width, None of an endless one."""
        return None if self._sort == "endless" else len(self._rows[0])

    def high(self):
        """The height, None of an endless one."""
        return None if self._sort == "endless" else len(self._rows)

    def area(self):
        """(left, top, rows): all of a torus or a box, of an endless one its frame, [] without any."""
        return self._left, self._top, list(self._rows)

    def frame(self):
        """(left, top, right, bottom) of all that isn't ground, None where all is."""
        found = without_ground(self._rows)
        if found is None:
            return None
        right, down, rows = found
        left, top = self._left + right, self._top + down
        return left, top, left + len(rows[0]) - 1, top + len(rows) - 1

    def sign_at(self, x, y):
        """The sign at a spot."""
        refuse_wrong(is_spot(x), is_spot(y))
        return self.there(x, y)

    def there(self, x, y):
        """The sign at any place, also beyond the farthest spots."""
        if self._sort == "torus":
            return self._rows[y % len(self._rows)][x % len(self._rows[0])]
        if self._has(x, y):
            return self._rows[y - self._top][x - self._left]
        return GROUND if self._edge is None else self._edge

    def _has(self, x, y):
        if not 0 <= y - self._top < len(self._rows):
            return False
        return 0 <= x - self._left < len(self._rows[0])

    def cells(self):
        """The sorted list of (x, y, sign) of all that isn't ground."""
        found = [
            (self._left + right, self._top + down, sign)
            for down, row in enumerate(self._rows)
            for right, sign in enumerate(row)
            if sign != GROUND
        ]
        return sorted(found)

    def picture(self, left, top, wide, high):
        """The picture of a part."""
        refuse_wrong(is_spot(left), is_spot(top), is_from_to(wide, 1, MOST), is_from_to(high, 1, MOST))
        return [
            "".join([self.there(x, y) for x in range(left, left + wide)])
            for y in range(top, top + high)
        ]

    def put(self, x, y, sign):
        """The field with another sign at a spot."""
        refuse_wrong(is_spot(x), is_spot(y), is_sign(sign))
        return self.laid([(x, y, sign)])

    def placed(self, piece, x, y, *, way=0):
        """The field with a piece, turned by a way, with its left top at a spot."""
        refuse_wrong(is_piece(piece), is_spot(x), is_spot(y), is_way(way))
        return self.laid(spots_of(turned(piece, way), x, y))

    def laid(self, spots):
        """The field with the signs of spots, tuples (x, y, sign), one behind another."""
        left, top, rows = self._left, self._top, self._rows
        if self._sort == "endless":
            left, top, rows = grown(left, top, rows, spots)
        grid = [list(row) for row in rows]
        for x, y, sign in spots:
            right, down = x - left, y - top
            if self._sort == "torus":
                grid[down % len(grid)][right % len(grid[0])] = sign
            elif 0 <= down < len(grid) and 0 <= right < len(grid[0]):
                grid[down][right] = sign
            elif self._sort == "box":
                raise NoCell(x, y)
        return self.remade(self._turn, left, top, ["".join(row) for row in grid])

    def moved(self, dx, dy):
        """The field with all of it moved."""
        refuse_wrong(is_spot(dx), is_spot(dy))
        if self._sort == "box":
            raise Fixed()
        if self._sort == "endless":
            return self.remade(self._turn, self._left + dx, self._top + dy, self._rows)
        down, right = -dy % len(self._rows), -dx % len(self._rows[0])
        rows = self._rows[down:] + self._rows[:down]
        return self.remade(self._turn, 0, 0, [row[right:] + row[:right] for row in rows])

    def dated(self, turn):
        """The field at another turn."""
        refuse_wrong(is_turn(turn))
        return self.remade(turn, self._left, self._top, self._rows)

    def remade(self, turn, left, top, rows):
        """A field of this sort and edge, of another turn and other rows at (left, top)."""
        if self._sort != "endless":
            return Field(self._sort, turn, self._edge, left, top, rows)
        found = without_ground(rows)
        if found is None:
            return Field("endless", turn, None, 0, 0, [])
        right, down, kept = found
        return Field("endless", turn, None, left + right, top + down, kept)

    def __eq__(self, other):
        return (
            isinstance(other, Field)
            and self._sort == other._sort
            and self._turn == other._turn
            and self._edge == other._edge
            and self._left == other._left
            and self._top == other._top
            and self._rows == other._rows
        )

    def __len__(self):
        return len("".join(self._rows).replace(GROUND, ""))

    def __repr__(self):
        return f"Field({self._sort}, {len(self)})"
