"""[80], and of [3] what is its: the rule WIRES."""

import unittest

from cellscript import wires as file
from cellscript.fields import box, endless, torus
from cellscript.plain import run, step
from cellscript.rules import Rule
from cellscript.ruletexts import read_rule, show_rule
from cellscript.wires import wires
from tests.model_machines import GIVES_DOWN, GIVES_RIGHT, model_wires
from tests.support import SIGNS, Told, chance, some_picture

WIRED = SIGNS[:25]


class Wires(Told):
    def test_what_it_is(self):
        rule = wires()
        self.assertIs(type(rule), Rule)
        self.assertEqual((rule.kind(), rule.many(), rule.near(), rule.signs()), ("around", 25, ("w", "n"), WIRED))
        self.assertTrue(rule.keeps_ground())
        self.assertEqual(read_rule(show_rule(rule)), rule)

    def test_each_sign_with_each_west_and_north_one(self):
        rule = wires()
        for own in WIRED:
            for west in WIRED:
                for north in WIRED:
                    self.assertEqual(rule.becomes(own, west + north), model_wires(own, west, north), (own, west, north))

    def test_run_one_turn(self):
        rule = wires()
        for own in WIRED:
            for west in WIRED:
                # Three rows: where the north one stands above, the own one below, and the west one beside it.
                for at in range(0, 25, 8):
                    norths = WIRED[at:at + 8]
                    above = "".join("." + north + "." for north in norths)
                    beside = "".join(west + own + "." for _ in norths)
                    later = run(rule, box([above, beside], "x"), 1)
                    told = [later.sign_at(3 * k + 1, 1) for k in range(len(norths))]
                    self.assertEqual(told, [model_wires(own, west, north) for north in norths])

    def test_outside_of_a_box(self):
        rule = wires()
        for own in WIRED:
            for edge in WIRED:
                self.assertEqual(step(rule, box([own], edge)).sign_at(0, 0), model_wires(own, edge, edge))
                for sign in WIRED:
                    self.assertEqual(step(rule, box([sign + own], edge)).sign_at(1, 0), model_wires(own, sign, edge))
                    self.assertEqual(step(rule, box([sign, own], edge)).sign_at(0, 1), model_wires(own, edge, sign))

    def test_nothing_hangs_on_other_cells(self):
        rule, by = wires(), chance(150)
        for _ in range(60):
            picture = some_picture(by, 25, by.randint(1, 9), by.randint(1, 9))
            field = by.choice((torus(picture), box(picture, by.choice(WIRED))))
            later = step(rule, field)
            for x in range(field.wide()):
                for y in range(field.high()):
                    known = model_wires(field.sign_at(x, y), field.sign_at(x - 1, y), field.sign_at(x, y - 1))
                    self.assertEqual(later.sign_at(x, y), known)

    def test_what_gives(self):
        rule = wires()
        for sign in WIRED:
            self.assertEqual(rule.becomes("b", sign + ".") == "c", sign in GIVES_RIGHT)
            self.assertEqual(rule.becomes("d", "." + sign) == "e", sign in GIVES_DOWN)

    def test_a_spark_flies_east(self):
        field = endless([(0, 0, "a"), (-3, 4, "a"), (5, 4, "x")])
        self.assertEqual(run(wires(), field, 4).cells(), [(1, 4, "a"), (4, 0, "a"), (5, 4, "x")])
        self.assertEqual(run(wires(), field, 40).cells(), [(5, 4, "x"), (40, 0, "a")])

    def test_what_is_told_is_the_askers_own(self):
        rule = wires()
        rows = rule.rows()
        rule.rows().clear()
        wires().rows().append(None)
        self.assertEqual((wires().rows(), rule.rows()), (rows, rows))
        self.assertEqual(wires(), rule)
        self.assertLessEqual(len(rule), 80)

    def test_it_is_defined_in_the_file(self):
        self.assertEqual(file.wires.__module__, "cellscript.wires")


if __name__ == "__main__":
    unittest.main()
