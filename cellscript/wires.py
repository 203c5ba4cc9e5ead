"""The rule by which machines run."""

from cellscript.rules import Rule

MANY = 25
# The signs that give to the right, and those that give down.
RIGHT = "acegikmoqsuw"
DOWN = "cehimoqsuw"


def wires():
    """The rule WIRES."""
    west, north = ("at", "w", RIGHT), ("at", "n", DOWN)
    return Rule("around", MANY, ("w", "n"), [
        (".a", (("at", "w", "ak"),), "a"), ("a", (), "."),
        ("bc", (west,), "c"), ("bc", (), "b"),
        ("de", (north,), "e"), ("de", (), "d"),
        ("fghi", (west, north), "i"), ("fghi", (west,), "g"), ("fghi", (north,), "h"), ("fghi", (), "f"),
        ("jk", (west,), "k"), ("jk", (), "j"),
        ("lm", (west, north), "m"), ("lm", (), "l"),
        ("no", (west,), "o"), ("no", (north,), "o"), ("no", (), "n"),
        ("pq", (west, north), "p"), ("pq", (west,), "q"), ("pq", (north,), "q"), ("pq", (), "p"),
        ("rs", (west,), "r"), ("rs", (), "s"),
        ("tu", (west, north), "u"), ("tu", (north,), "t"),
        ("v", (west,), "w"), ("w", (west,), "v"),
    ])
