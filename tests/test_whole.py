"""[5], [9], [10], and of [3] what is the whole program's: runs by all ways, turns back, and cones, through a book."""

import unittest

from cellscript.books import Book
from cellscript.errors import CellError
from cellscript.fields import box, endless, torus
from cellscript.history import History
from cellscript.kept import Kept
from cellscript.logs import book_of, show_log
from cellscript.plain import run, step
from cellscript.rules import Rule
from cellscript.undo import merging, undone
from tests.support import SORTS, Told, chance, some_field, some_parts, swapping_rows

KINDS = ("endless", "torus", "box")


def book_with(rule, field):
    """A book with a rule r and a field f of it."""
    book = Book()
    book.do(("rule", "r", rule))
    book.do(("field", "f", "r", field))
    return book


def told_or_refused(call):
    """What a call tells, or what it is refused with."""
    try:
        return call()
    except CellError as caught:
        return type(caught), vars(caught)


class OneRun(Told):
    def some(self, seed, count):
        by = chance(seed)
        for at in range(count):
            sort, kind = SORTS[at % 3], KINDS[at // 3 % 3]
            parts = some_parts(by, sort, by.choice((2, 3, 4, 25)), keeps=True)
            yield by, Rule(*parts), some_field(by, kind, sort, min(parts[1], 4), by.choice((0, 1, 8, 10 ** 9 - 1)))

    def test_by_all_ways(self):
        for by, rule, field in self.some(300, 45):
            turns = by.choice((0, 1, 2, 5, 9, 12))
            known = run(rule, field, turns)
            book = book_with(rule, field)
            book.do(("run", "f", turns))
            self.assertEqual(book.field("f"), known)
            self.assertEqual(Kept(rule, most=by.choice((1, 5, 256))).run(field, turns), known)
            past = History(rule, field)
            past.go(turns)
            self.assertEqual(past.field(past.last()), known)
            # In parts, through a copied book and one that was made anew, with deeds taken back between.
            parts, left = [], turns
            while left:
                parts.append(by.randint(1, left))
                left -= parts[-1]
            book = book_with(rule, field)
            for part in parts:
                book.do(("run", "f", by.randint(0, 3)))
                book.back()
                book.do(("run", "f", part))
                if rule.kind() != "around" and rule.many() <= 4 and merging(rule) is None:
                    book.do(("undo", "f", 0))
                book = by.choice((book, book.copied(), book_of(show_log(book))))
            self.assertEqual(book.field("f"), known)
            other = field
            for _ in range(turns):
                other = step(rule, other)
            self.assertEqual(other, known)

    def test_by_one_call_of_each_the_same_refusal(self):
        seen = {}
        by = chance(301)
        for at in range(150):
            sort = by.choice(SORTS)
            parts = some_parts(by, sort, by.choice((2, 3)), keeps=by.random() < 0.7)
            field = some_field(by, by.choice(KINDS), by.choice(SORTS), by.choice((2, 2, 3)), 0)
            if field.kind() == "endless" and by.random() < 0.5:
                field = endless([(0, 0, "a"), (by.choice((119, 120, 180, 198)), 0, "a")])
            rule, turns = Rule(*parts), by.choice((0, 1, 9, 10, 40))
            known = told_or_refused(lambda: run(rule, field, turns))
            self.assertEqual(told_or_refused(lambda: Kept(rule).run(field, turns)), known)

            def in_a_history():
                past = History(rule, field)
                past.go(turns)
                return past.field(turns)

            def in_a_book():
                book = book_with(rule, field)
                book.do(("run", "f", turns))
                return book.field("f")
            self.assertEqual(told_or_refused(in_a_history), known)
            self.assertEqual(told_or_refused(in_a_book), known)
            if isinstance(known, tuple):
                seen[known[0].__name__] = True
        self.assertEqual(sorted(seen), ["Odd", "Restless", "Strange", "TooFar"])


class TurnsBack(Told):
    def test_undone_turns_lead_back(self):
        by, count = chance(302), 0
        for at in range(120):
            sort, kind = by.choice(("halves", "blocks")), by.choice(KINDS)
            many = by.choice((2, 3, 4))
            near = ("n", "w") if sort == "halves" else ()
            rule = Rule(sort, many, near, swapping_rows(by, sort, many, near))
            if merging(rule) is not None or not rule.keeps_ground():
                continue
            count += 1
            field, turns = some_field(by, kind, sort, many, by.choice((0, 3, 20))), by.choice((0, 1, 2, 5, 11))
            book = book_with(rule, field)
            book.do(("run", "f", turns))
            later = book.field("f")
            book.do(("undo", "f", turns))
            self.assertEqual(book.field("f"), field)
            self.assertEqual(undone(rule, later, turns), field)
            # And ahead of what was there at first, and on again.
            ahead = min(field.turn(), 7)
            book.do(("undo", "f", ahead))
            self.assertEqual(book.field("f").turn(), field.turn() - ahead)
            for _ in range(ahead):
                book.do(("run", "f", 1))
            self.assertEqual(book.field("f"), field)
        self.assertGreater(count, 60)


class Cones(Told):
    def test_a_cell_put_otherwise_by_instead(self):
        by, found = chance(303), 0
        for at in range(200):
            sort, kind = SORTS[at % 3], KINDS[at // 3 % 3]
            parts = some_parts(by, sort, 3, keeps=True)
            field = some_field(by, kind, sort, 3, by.choice((0, 1)))
            rule, turns = Rule(*parts), by.randint(1, 5)
            wide, high = (field.wide(), field.high()) if kind != "endless" else (None, None)
            x, y = (by.randrange(wide), by.randrange(high)) if wide else (by.randint(-3, 3), by.randint(-3, 3))
            book = book_with(rule, field)
            book.do(("put", "f", x, y, "a"))
            for _ in range(turns):
                book.do(("run", "f", 1))
            old = [book.field("f", at=k) for k in range(3, len(book) + 1)]
            told = book.instead(2, ("put", "f", x, y, "b"))
            new = [book.field("f", at=k) for k in range(3, len(book) + 1)]
            self.assertEqual(told, ["f"] if old[-1] != new[-1] else [])
            # What was changed in a history, by one cell alone, reaches as far.
            past = History(rule, field.put(x, y, "a"))
            past.go(turns)
            past.change(field.turn(), x, y, "b")
            for n, (one, other) in enumerate(zip(old, new)):
                self.assertEqual(past.field(field.turn() + n), other)
                places = {cell[:2] for cell in {*one.cells()} ^ {*other.cells()}}
                self.assertEqual(sorted(places), past.changed(field.turn() + n))
                found += len(places) > 1
                for a, b in places:
                    self.assertLessEqual(self.far(a, x, wide if kind == "torus" else None), n)
                    self.assertLessEqual(self.far(b, y, high if kind == "torus" else None), n)
        self.assertGreater(found, 40)

    def far(self, one, other, around):
        """How far two numbers are from each other, around a torus folded."""
        return abs(one - other) if around is None else min((one - other) % around, (other - one) % around)


class NothingIsShared(Told):
    def test_what_is_told_is_the_askers_own(self):
        # Lists and dicts of all that is asked of one book do nothing to it, to its copy or to what was handed in.
        rule = Rule("around", 3, ("w",), [(".", (("at", "w", "a"),), "a"), ("a", (), ".")])
        for field in (endless([(0, 0, "a")]), torus(["a.", ".."]), box(["a.b"], "b")):
            book = book_with(rule, field)
            other = book.copied()
            for told in (book.log(), book.names(), book.rule("r").rows(), book.field("f").cells(), book.field("f").picture(0, 0, 2, 2), book.instead(0, ("rule", "r", rule))):
                told.append(None)
                told.clear()
            self.assertEqual(book, other)
            self.assertEqual((book.field("f"), book.rule("r")), (field, rule))
            self.assertEqual(book.field("f").cells(), other.field("f").cells())


if __name__ == "__main__":
    unittest.main()
