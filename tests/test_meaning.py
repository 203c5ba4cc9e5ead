"""[82], and of [3] what is its: what machines mean."""

import unittest

from cellscript import meaning as file
from cellscript.machine import Machine, read_machine
from cellscript.meaning import meaning
from tests.model_machines import READS, ins_of, model_meaning, model_size, some_fed, some_machine
from tests.support import Told, chance

# Bits of two ins in which each two stand at once, and behind one another.
ONE, OTHER = [0, 0, 1, 1, 0, 1, 0, 1, 1], [0, 1, 0, 1, 1, 0, 0, 1, 0]
# A clock: 1 in each second wave, from the first one on that it has.
CLOCK = "one a/flip b a/out b"


class Meaning(Told):
    def told(self, text, fed, waves):
        return meaning(read_machine(text), fed, waves)

    def test_every_kind(self):
        for word, known in (
            ("and", [0, 0, 0, 1, 0, 0, 0, 1, 0]), ("or", [0, 1, 1, 1, 1, 1, 0, 1, 1]), ("xor", [0, 1, 1, 0, 1, 1, 0, 0, 1]),
            # The bit of the first one where the other one is 1, else the one ahead.
            ("hold", [0, 0, 0, 1, 0, 0, 0, 1, 1]),
        ):
            self.assertEqual(self.told(f"in a/in b/{word} c a b/out c", {"a": ONE, "b": OTHER}, 9), {"c": known}, word)
        self.assertEqual(self.told("in a/not b a/out b", {"a": ONE}, 11), {"b": [1, 1, 0, 0, 1, 0, 1, 0, 0, 1, 1]})
        self.assertEqual(self.told("in a/flip b a/out b", {"a": ONE}, 11), {"b": [0, 0, 1, 0, 0, 1, 1, 0, 1, 1, 1]})
        self.assertEqual(self.told("one a/out a", {}, 3), {"a": [1, 1, 1]})
        self.assertEqual(self.told("in a/out a", {"a": ONE}, 12), {"a": ONE + [0, 0, 0]})

    def test_in_the_same_wave(self):
        # A name that is read is read in its own wave, however many lie between.
        text = "in a/not b a/not c b/not d c/not e d/out e/out d"
        self.assertEqual(self.told(text, {"a": ONE}, 9), {"e": ONE, "d": [1 - bit for bit in ONE]})

    def test_flips_and_holds_from_the_first_wave_on(self):
        # A flip of one is 1 in the first wave, which is so many ahead of the wave 1 as wide + high and one more.
        for ahead in range(11):
            rows = [("one", "a"), ("flip", "b", "a"), ("out", "b")] + [("one", name) for name in "cdefghijkl"[:ahead]]
            wide, high = model_size(rows)
            first = (wide + high + 2) % 2
            told = meaning(Machine(rows), {}, 6)["b"]
            self.assertEqual(told, [first, 1 - first] * 3)
        for ahead in range(6):
            # By an in more the box is but one higher: so the flip's bit is the other one.
            rows = [("one", "a"), ("flip", "b", "a"), ("out", "b")] + [("in", name) for name in "cdefgh"[:ahead]]
            wide, high = model_size(rows)
            self.assertEqual(meaning(Machine(rows), {}, 1)["b"], [(wide + high) % 2])
        self.assertEqual(self.told(CLOCK, {}, 6), {"b": [0, 1, 0, 1, 0, 1]})

    def test_clocks(self):
        by = chance(170)
        for _ in range(150):
            rows = some_machine(by, words=tuple(word for word in READS if word != "in"))
            self.assertEqual(meaning(Machine(rows), {}, 60), model_meaning(rows, {}, 60))

    def test_holds_keep(self):
        self.assertEqual(self.told("in a/in b/hold c a b/out c", {"a": [1] * 60, "b": [0, 1]}, 60), {"c": [0] + [1] * 59})
        self.assertEqual(self.told("in a/in b/hold c a b/out c", {"a": [1, 1], "b": [0, 1, 0, 1]}, 6), {"c": [0, 1, 1, 0, 0, 0]})
        self.assertEqual(self.told("one a/in b/hold c a b/out c", {"b": [0, 0, 1]}, 5), {"c": [0, 0, 1, 1, 1]})
        # Held by one in waves ahead of 1.
        self.assertEqual(self.told("one a/in b/not c b/hold d a c/out d", {}, 3), {"d": [1, 1, 1]})

    def test_against_the_sentences(self):
        by = chance(171)
        seen = {}
        for _ in range(500):
            rows = some_machine(by)
            fed, waves = some_fed(by, rows), by.choice((0, 1, 2, 60, by.randint(0, 60)))
            told = meaning(Machine(rows), fed, waves)
            self.assertEqual(told, model_meaning(rows, fed, waves))
            self.assertEqual(list(told), [row[1] for row in rows if row[0] == "out"])
            for bits in told.values():
                self.assertIs(type(bits), list)
                self.assertEqual({type(bit) for bit in bits} - {int}, set())
            for row in rows:
                seen[row[0]] = seen.get(row[0], 0) + 1
        self.assertGreater(min(seen.values()), 50)

    def test_fed_some_of_the_ins_or_none(self):
        text = "in a/in b/in c/out a/out b/out c"
        for fed in ({}, {"a": []}, {"b": [1]}, {"a": [1, 1], "c": []}, {"c": [0, 1], "a": [1] * 60, "b": [0]}):
            known = {name: (fed.get(name, []) + [0] * 62)[:62] for name in "abc"}
            for waves in (0, 1, 2, 59, 60):
                self.assertEqual(self.told(text, fed, waves), {name: bits[:waves] for name, bits in known.items()})

    def test_lists_of_60_bits(self):
        by = chance(172)
        for _ in range(60):
            rows = [("in", "a"), ("in", "b"), ("xor", "c", "a", "b"), ("flip", "d", "c"), ("hold", "e", "d", "a"), ("out", "e"), ("out", "d")]
            fed = {name: [by.randint(0, 1) for _ in range(60)] for name in ins_of(rows)}
            self.assertEqual(meaning(Machine(rows), fed, 60), model_meaning(rows, fed, 60))

    def test_fewer_waves_tell_the_beginning_of_more(self):
        by = chance(173)
        for _ in range(40):
            rows = some_machine(by)
            made, fed = Machine(rows), some_fed(by, rows)
            most = meaning(made, fed, 60)
            for waves in range(0, 60, 7):
                self.assertEqual(meaning(made, fed, waves), {name: bits[:waves] for name, bits in most.items()})

    def test_nothing_is_told_out(self):
        for text in ("in a", "one a/not b a", "in a/flip b a"):
            self.assertEqual(self.told(text, {}, 60), {})
            self.assertEqual(self.told(text, {"a": [1]} if text.startswith("in") else {}, 0), {})

    def test_of_no_waves(self):
        self.assertEqual(self.told("in a/not b a/out b/out a", {"a": [1]}, 0), {"b": [], "a": []})

    def test_nothing_is_changed_and_all_told_is_new(self):
        made, fed = read_machine("in a/in b/or c a b/out c/out a"), {"a": [1, 0], "b": []}
        known = meaning(made, fed, 4)
        self.assertEqual(fed, {"a": [1, 0], "b": []})
        told = meaning(made, fed, 4)
        told["a"].append(7)
        told["c"].clear()
        del told["a"]
        self.assertEqual(meaning(made, fed, 4), known)
        fed["a"].clear()
        self.assertEqual(known, {"c": [1, 0, 0, 0], "a": [1, 0, 0, 0]})
        self.assertEqual(meaning(made, fed, 1), {"c": [0], "a": [0]})

    def test_it_is_defined_in_the_file(self):
        self.assertEqual(file.meaning.__module__, "cellscript.meaning")


if __name__ == "__main__":
    unittest.main()
