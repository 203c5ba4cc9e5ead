"""The interface: each name stands in its file, defined there, with the arguments that are told, and each method in its class."""

import importlib
import inspect
import unittest

from cellscript import errors

# By files: functions and classes with their arguments, and of classes their methods.
FUNCTIONS = {
    "kinds": ["is_whole(thing)", "is_sign(thing)", "is_signs(thing)", "is_spot(thing)", "is_turn(thing)", "is_word(thing)", "is_place(thing)"],
    "pictures": [
        "is_picture(thing)", "is_piece(thing)", "turned(piece, way)", "then(one, other)", "back_of(way)", "spots_of(piece, x, y)", "trimmed(picture)", "show_piece(piece)", "read_piece(text)",
    ],
    "ruletexts": ["show_rule(rule)", "read_rule(text)"],
    "fields": ["endless(cells, *, turn=0)", "torus(picture, *, turn=0)", "box(picture, edge, *, turn=0)"],
    "fieldtexts": ["show_field(field)", "read_field(text)"],
    "plain": ["fits(rule, field, turns)", "step(rule, field)", "run(rule, field, turns)"],
    "undo": ["merging(rule)", "merging_holds(rule, paper)", "undone(rule, field, turns)"],
    "pieces": ["heart_of(rule, square, odd)"],
    "patterns": ["paper_of(rule, cells, most)", "paper_holds(rule, cells, paper)", "where_at(rule, cells, paper, turn)", "apart(one, other, by)"],
    "clear": ["clear_of(rule, one, other, most)"],
    "guns": ["gun_of(rule, cells, most)", "gun_holds(rule, cells, paper)"],
    "search": ["search(rule, wide, high, most)"],
    "forebears": [
        "how_many(rule, edge, rows)", "forebear(rule, edge, rows, number)", "none_of(rule, edge, rows)", "none_holds(rule, edge, rows, paper)", "ring_how_many(rule, row)", "ring_forebear(rule, row, number)",
    ],
    "gardens": ["garden(rule, edge, high)", "no_garden_holds(rule, edge, high, sets)"],
    "wires": ["wires()"],
    "machine": ["show_machine(machine)", "read_machine(text)", "show_fed(fed)", "read_fed(text)"],
    "meaning": ["meaning(machine, fed, waves)"],
    "laying": ["laid_cells(machine)", "sparks(machine, fed)", "lay(field, machine, x, y, *, fed=None)", "read_off(field, machine, x, y, turns)"],
    "logs": ["show_deed(deed)", "read_deed(text)", "show_log(book)", "book_of(text)"],
    "end": ["answered(text, row)"],
}
CLASSES = {
    "rules": {"Rule(sort, many, near, rows)": ["kind()", "many()", "near()", "rows()", "signs()", "becomes(own, around)", "block(four)", "keeps_ground()", "turned(way)"]},
    "fields": {"Field": [
        "kind()", "turn()", "edge()", "wide()", "high()", "frame()", "sign_at(x, y)", "cells()", "picture(left, top, wide, high)", "put(x, y, sign)", "placed(piece, x, y, *, way=0)", "moved(dx, dy)", "dated(turn)",
    ]},
    "kept": {"Kept(rule, *, most=64)": ["run(field, turns)", "keeps()", "reckoned()"]},
    "history": {"History(rule, field)": ["go(turns)", "first()", "last()", "field(turn)", "change(turn, x, y, sign)", "reached(turn)", "changed(turn)", "copied()"]},
    "machine": {"Machine(rows)": ["rows()", "names()", "ins()", "outs()", "wide()", "high()"]},
    "books": {"Book()": ["do(deed)", "back()", "again()", "instead(at, deed)", "names()", "log()", "rule(name)", "rule_of(name)", "field(name, *, at=None)", "copied()"]},
    "desk": {"Desk()": ["say(row)", "book()"]},
}
ERRORS = [
    "Wrong(at)", "BadRow(at)", "NoLog(at)", "Broken(at)", "TooFar(most)", "TooMany(most)", "Strange(sign)", "Unknown(name)", "Taken(name)", "Used(name)", "Alien(name)", "NoCell(x, y)", "Filled(x, y)", "Early(now)",
    "NoTurn(now)", "Merging(paper)", "NoForebear(number, total)",
]


class Interface(unittest.TestCase):
    def stands(self, file, told, owner, skip=0):
        """A name stands in an owner, defined in this file, with the arguments that are told."""
        name = told.partition("(")[0]
        thing = vars(owner).get(name)
        self.assertIsNotNone(thing, told)
        self.assertEqual(thing.__module__, f"cellscript.{file}", told)
        if "(" in told:
            things = list(inspect.signature(thing).parameters.values())[skip:]
            self.assertEqual(str(inspect.Signature(things)), told[len(name):], told)
        return thing

    def test_functions(self):
        for file, names in FUNCTIONS.items():
            module = importlib.import_module(f"cellscript.{file}")
            for told in names:
                self.assertTrue(inspect.isfunction(self.stands(file, told, module)), told)

    def test_classes_and_their_methods(self):
        for file, classes in CLASSES.items():
            module = importlib.import_module(f"cellscript.{file}")
            for told, methods in classes.items():
                made = self.stands(file, told, module)
                self.assertTrue(inspect.isclass(made), told)
                for method in methods:
                    self.assertTrue(inspect.isfunction(self.stands(file, method, made, 1)), method)

    def test_errors(self):
        for told in ERRORS:
            self.stands("errors", told, errors)

    def test_lengths_texts_and_what_is_equal(self):
        for file, name, methods in (("rules", "Rule", ("__eq__", "__len__", "__repr__")), ("fields", "Field", ("__eq__", "__len__", "__repr__")), ("books", "Book", ("__eq__", "__len__")), ("machine", "Machine", ("__eq__",))):
            for method in methods:
                self.assertIn(method, vars(getattr(importlib.import_module(f"cellscript.{file}"), name)))


if __name__ == "__main__":
    unittest.main()
