"""[21], [22]: which cells are open and clear to a person, and what they see of each."""

import random
import unittest

from ledgerloom.errors import InvalidCell, InvalidName
from ledgerloom.meaning import value_of
from ledgerloom.seeing import seen
from tests import chance, model, model_shown
from tests.helper import (
    COLUMNS, ODD_THINGS, ROWS, VALUES_IN_ORDER, OwnText, area, at, book, call, cell, is_plain, number, own, sheet, text,
    truth,
)
from tests.test_meaning import NO_CELLS
from tests.test_rights import NO_PERSONS

HIDDEN = ("hidden",)
ONE = ("number", 1, 1)
RING = ("error", "ring")


def three(*contents):
    """A sheet of one row with these contents, None for none."""
    return sheet("bills", 1, len(contents), {(0, k): content for k, content in enumerate(contents) if content})


def formula(tree):
    """The content of this tree."""
    return ("=", tree)


class SeenTest(unittest.TestCase):
    def sees(self, some_book, some_cell, told, person="bob"):
        for some_person, same in ((person, some_cell), (own(person), own(some_cell))):
            found = seen(some_book, some_person, same)
            self.assertEqual(found, told)
            self.assertTrue(is_plain(found))

    def test_each_kind_of_value(self):
        for value in VALUES_IN_ORDER:
            some_book = book(three(value), rights=(("bob", "bills", None, "read"),))
            told = {None: "", ("text", "10"): '"10"', ("text", ""): '""', ("truth", 1): "yes", ("truth", 0): "no"}
            told.update({("number", -5, 2): "-5/2", ("number", 10, 1): "10", ("error", "zero"): "#zero"})
            if value in told:
                self.sees(some_book, at("bills", 0, 0), ("clear", told[value], value))
            self.assertEqual(seen(some_book, "bob", at("bills", 0, 0))[2], value)
            self.assertEqual(seen(some_book, "ann", at("bills", 0, 0)), seen(some_book, "bob", at("bills", 0, 0)))
            self.sees(some_book, at("bills", 0, 0), HIDDEN, "eve")

    def test_formulas(self):
        for tree, told, value in (
            (number(5), "= 5", ("number", 5, 1)), (number(-1, 2), "= (-1/2)", ("number", -1, 2)),
            (text("a b"), '= "a b"', ("text", "a b")), (truth(0), "= no", ("truth", 0)),
            (("op", "+", cell("bills", 0, 1), number(1)), "= bills!b1 + 1", ("number", 2, 1)),
            (call("sum", area("bills", 0, 1, 0, 2)), "= sum(bills!b1:bills!c1)", ("number", 1, 1)),
            (cell("bills", 0, 0), "= bills!a1", RING),
            (cell("none", 0, 0), "= #gone", ("error", "gone")),
            (("if", truth(1), number(3), cell("bills", 9, 0)), "= if(yes, 3, #gone)", ("number", 3, 1)),
            (("op", "/", number(1), cell("bills", 0, 2)), "= 1 / bills!c1", ("error", "zero")),
            (("minus", text("a")), '= -"a"', ("error", "kind")),
        ):
            some_book = book(three(formula(tree), ONE, None), rights=(("bob", "bills", None, "read"),))
            self.sees(some_book, at("bills", 0, 0), ("clear", told, value))
            self.sees(some_book, at("bills", 0, 0), ("clear", told, value), "ann")
            self.sees(some_book, at("bills", 0, 0), HIDDEN, "eve")

    def test_what_is_needed_and_not_open_veils(self):
        tree = ("op", "+", cell("bills", 0, 1), number(1))
        contents = (formula(tree), formula(("minus", cell("bills", 0, 2))), ONE)
        for column, what in (
            (0, [("veiled", "= bills!b1 + 1"), HIDDEN, HIDDEN]), (1, [HIDDEN, ("veiled", "= -bills!c1"), HIDDEN]),
            (2, [HIDDEN, HIDDEN, ("clear", "1", ONE)]),
        ):
            some_book = book(three(*contents), rights=(("bob", "bills", COLUMNS[column], "read"),))
            for place in range(3):
                self.sees(some_book, at("bills", 0, place), what[place])
        for hidden, what in (
            (0, [HIDDEN, ("clear", "= -bills!c1", ("number", -1, 1)), ("clear", "1", ONE)]),
            (1, [("veiled", "= bills!b1 + 1"), HIDDEN, ("clear", "1", ONE)]),
            (2, [("veiled", "= bills!b1 + 1"), ("veiled", "= -bills!c1"), HIDDEN]),
        ):
            rights = (("all", "bills", None, "write"), ("bob", "bills", COLUMNS[hidden], "none"))
            for place in range(3):
                self.sees(book(three(*contents), rights=rights), at("bills", 0, place), what[place])
                self.assertEqual(seen(book(three(*contents), rights=rights), "eve", at("bills", 0, place))[0], "clear")

    def test_what_is_needed_in_branches_that_are_not_taken_veils_too(self):
        read = (("bob", "bills", COLUMNS[0], "read"),)
        for tree, told in (
            (("if", truth(1), number(1), cell("bills", 0, 1)), "= if(yes, 1, bills!b1)"),
            (("op", "*", number(0), cell("bills", 0, 1)), "= 0 * bills!b1"),
            (call("count", area("bills", 0, 0, 0, 1)), "= count(bills!a1:bills!b1)"),
        ):
            self.sees(book(three(formula(tree), None), rights=read), at("bills", 0, 0), ("veiled", told))

    def test_what_is_gone_hides_nothing(self):
        rights = (("bob", "bills", COLUMNS[0], "read"), ("bob", "none", None, "none"))
        for tree in (cell("none", 0, 0), cell("bills", 0, 7), call("sum", area("bills", 0, 1, 9, 1))):
            some_book = book(three(formula(tree), ONE), rights=rights)
            self.assertEqual(seen(some_book, "bob", at("bills", 0, 0))[0], "clear")
            self.assertEqual(seen(some_book, "bob", at("bills", 0, 0))[2], ("error", "gone"))

    def test_rings(self):
        contents = (formula(cell("bills", 0, 1)), formula(cell("bills", 0, 0)), formula(cell("bills", 0, 2)))
        some_book = book(three(*contents), rights=(("all", "bills", None, "read"),))
        for place, told in enumerate(("= bills!b1", "= bills!a1", "= bills!c1")):
            self.sees(some_book, at("bills", 0, place), ("clear", told, RING))
        some_book = book(three(*contents), rights=(("all", "bills", None, "read"),
            ("bob", "bills", COLUMNS[1], "none")))
        self.sees(some_book, at("bills", 0, 0), ("veiled", "= bills!b1"))
        self.sees(some_book, at("bills", 0, 1), HIDDEN)
        self.sees(some_book, at("bills", 0, 2), ("clear", "= bills!c1", RING))

    def test_across_sheets(self):
        notes = sheet("notes", 1, 2, {(0, 0): formula(("op", "&", cell("bills", 0, 0), text("!"))), (0, 1): ONE})
        for rights, what in (
            ((("bob", "notes", None, "read"),), ("veiled", '= bills!a1 & "!"')),
            ((("bob", "bills", None, "read"),), HIDDEN),
            ((("bob", "bills", COLUMNS[0], "read"), ("all", "notes", COLUMNS[0], "write")),
             ("clear", '= bills!a1 & "!"', ("text", "1!"))),
        ):
            self.sees(book(three(ONE), notes, rights=rights), at("notes", 0, 0), what)

    def test_rights_of_each_kind(self):
        for rights, is_open in (
            ((), False), ((("bob", "bills", None, "read"),), True), ((("bob", "bills", None, "write"),), True),
            ((("bob", "bills", None, "none"),), False), ((("all", "bills", COLUMNS[0], "read"),), True),
            ((("all", "bills", COLUMNS[1], "read"),), False), ((("eve", "bills", None, "write"),), False),
            ((("all", "notes", None, "write"),), False),
            ((("all", "bills", None, "write"), ("bob", "bills", COLUMNS[0], "none")), False),
            ((("bob", "bills", COLUMNS[0], "none"), ("all", "bills", None, "read")), True),
            ((("bob", "bills", None, "read"), ("eve", "bills", None, "none")), True),
            ((("bob", "bills", None, "read"), ("bob", "bills", COLUMNS[1], "none")), True),
        ):
            some_book = book(three(ONE, None), rights=rights)
            self.sees(some_book, at("bills", 0, 0), ("clear", "1", ONE) if is_open else HIDDEN)
            self.sees(some_book, at("bills", 0, 0), ("clear", "1", ONE), "ann")

    def test_the_print_hangs_on_where_things_stand(self):
        tree = ("op", "-", cell("bills", 0, 0), cell("bills", 1, 1))
        rows, columns = (ROWS[1], ROWS[2], ROWS[0]), (COLUMNS[1], COLUMNS[0])
        some_book = book(("bills", rows, columns, ((ROWS[2], COLUMNS[0], formula(tree)),)))
        self.sees(some_book, at("bills", 2, 0), ("clear", "= bills!b3 - bills!a1", ("number", 0, 1)), "ann")

    def test_alike_books_are_seen_alike(self):
        dice = random.Random(22)
        found = set()
        for _ in range(80):
            some_book = chance.some_shared_book(dice)
            for person in ("ann", "bob", "eve"):
                other = chance.alike_book(dice, some_book, lambda one: model_shown.is_open(some_book, person, one))
                for some_cell in model.all_cells(some_book):
                    what = seen(some_book, person, some_cell)
                    self.assertEqual(what, model_shown.seen(some_book, person, some_cell))
                    self.assertEqual(what, seen(other, person, some_cell))
                    found.add(what[0])
                    if what[0] == "clear":
                        self.assertEqual(what[2], value_of(some_book, some_cell))
        self.assertEqual(found, {"hidden", "veiled", "clear"})

    def test_by_name(self):
        self.assertEqual(seen(cell=at("bills", 0, 0), person="ann", book=book(three(ONE))), ("clear", "1", ONE))

    def refuses(self, kind, wrong, person, some_cell):
        with self.assertRaises(kind) as caught:
            seen(book(three(ONE, ONE, ONE), rights=(("all", "bills", None, "read"),)), person, some_cell)
        self.assertIs(caught.exception.value, wrong)

    def test_refuses_persons_ahead_of_cells(self):
        odd = [thing for thing in ODD_THINGS if thing not in ("ann", "value")]
        for person in ["all", OwnText("all"), *NO_PERSONS, *odd]:
            self.refuses(InvalidName, person, person, at("bills", 0, 0))
            self.refuses(InvalidName, person, person, None)

    def test_refuses_what_is_no_cell(self):
        for wrong in NO_CELLS:
            for person in ("ann", "bob"):
                self.refuses(InvalidCell, wrong, person, wrong)


if __name__ == "__main__":
    unittest.main()
