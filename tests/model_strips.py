"""A slow model of strips: what a picture between edges becomes, and the sets of states, from the document alone."""

from itertools import product

from tests.support import SIGNS, World, some_near, some_rows


def some_around(by, many):
    """The parts of a rule of around, of rows enough to make unlike columns of unlike ones."""
    near = some_near(by, "around")
    return "around", many, near, some_rows(by, "around", many, near, 8)


def columns_of(rows):
    return ["".join(column) for column in zip(*rows)]


def rows_of(columns, high):
    return ["".join(column[at] for column in columns) for at in range(high)]


def model_made(parts, edge, rows):
    """What a picture becomes between edges, but for its first and last column, cell by cell."""
    wide = len(rows[0])
    signs = {(x, y): sign for y, row in enumerate(rows) for x, sign in enumerate(row)}
    world = World("box", 0, signs, edge, wide, len(rows))
    return ["".join(world.next_sign(parts, x, y) for x in range(1, wide - 1)) for y in range(len(rows))]


def all_columns(many, high):
    """All columns of so many signs, so high, in their order."""
    return ["".join(column) for column in product(SIGNS[:many], repeat=high)]


class Sets:
    """The sets of states of a rule's parts, an edge and a height, and what comes of them column by column."""

    def __init__(self, parts, edge, high):
        self.columns = all_columns(parts[1], high)
        self.all = sorted(product(self.columns, repeat=2))
        self.made = {
            three: columns_of(model_made(parts, edge, rows_of(three, high)))[0]
            for three in product(self.columns, repeat=3)
        }

    def come(self, states, column):
        """The sorted states that come of these by a column."""
        return sorted({(b, c) for a, b in states for c in self.columns if self.made[a, b, c] == column})

    def garden(self):
        """("garden", its columns, the sets that were met ahead of it), or ("none", None, all sets)."""
        known, ways = [self.all], [()]
        for states in known:
            for column in self.columns:
                come = self.come(states, column)
                if not come:
                    return "garden", [*ways[known.index(states)], column], known
                if come not in known:
                    known.append(come)
                    ways.append((*ways[known.index(states)], column))
        return "none", None, known

    def show(self, sets):
        """Whether lists of states that rise, none empty, show that there is no garden."""
        held = [set(states) for states in sets]
        return bool(sets) and sets[0] == self.all and all(
            any(part <= set(self.come(states, column)) for part in held)
            for states in sets for column in self.columns
        )


def some_table(by, many, spoilt):
    """The parts of a rule that tells each sign, by the west and the east: by the east all signs come, but where spoilt.

    By such a rule gardens are long, if there are any, and there are many sets of states.
    """
    rows, signs = [], SIGNS[:many]
    for own, west in product(signs, repeat=2):
        told = by.sample(list(signs), many)
        if by.random() < spoilt:
            told = [by.choice(signs) for _ in signs]
        for east, sign in zip(signs, told):
            rows.append((own, (("at", "w", west), ("at", "e", east)), sign))
    return "around", many, ("w", "e"), rows
