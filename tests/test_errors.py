"""[4]: the refusals."""

import unittest

from cellscript import errors
from tests.support import Hostile, Told, nested, whatever

FIELDS = {
    "Wrong": ("at",), "BadRow": ("at",), "NoLog": ("at",), "Broken": ("at",), "TooFar": ("most",), "TooMany": ("most",),
    "Strange": ("sign",), "Unknown": ("name",), "Taken": ("name",), "Used": ("name",), "Alien": ("name",),
    "NoCell": ("x", "y"), "Filled": ("x", "y"), "Early": ("now",), "NoTurn": ("now",), "Merging": ("paper",),
    "NoForebear": ("number", "total"), "NoText": (), "Unfit": (), "Fixed": (), "Restless": (), "Odd": (), "NoWay": (),
    "NotAround": (), "NoDeed": (), "Nothing": (), "NoLine": (),
}


class Refusals(Told):
    def test_each_stands_straight_under_the_one_under_value_error(self):
        self.assertEqual(errors.CellError.__bases__, (ValueError,))
        for name in FIELDS:
            self.assertEqual(getattr(errors, name).__bases__, (errors.CellError,), name)

    def test_there_are_no_others(self):
        found = {name for name, thing in vars(errors).items() if isinstance(thing, type)}
        self.assertEqual(found, {*FIELDS, "CellError"})

    def test_each_is_defined_in_the_file(self):
        for name in [*FIELDS, "CellError"]:
            self.assertEqual(getattr(errors, name).__module__, "cellscript.errors")

    def test_each_keeps_the_very_things_it_is_made_with(self):
        for name, fields in FIELDS.items():
            for thing in [*whatever(), Hostile(), nested(50)]:
                things = [thing, *[[field] for field in fields[1:]]][:len(fields)]
                made = getattr(errors, name)(*things)
                self.assertEqual(set(vars(made)), set(fields), name)
                for field, kept in zip(fields, things):
                    self.assertIs(getattr(made, field), kept, name)

    def test_the_second_thing_is_kept_whatever_it_is(self):
        for name in ("NoCell", "Filled", "NoForebear"):
            first, second = FIELDS[name]
            for thing in whatever():
                made = getattr(errors, name)(first, thing)
                self.assertEqual(getattr(made, first), first)
                self.assertIs(getattr(made, second), thing)

    def test_they_are_raised_and_caught(self):
        for name, fields in FIELDS.items():
            refusal = getattr(errors, name)
            with self.assertRaises(refusal):
                raise refusal(*fields)
            with self.assertRaises(ValueError):
                raise refusal(*fields)


if __name__ == "__main__":
    unittest.main()
