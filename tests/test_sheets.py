"""[12]: which sheets a book may have."""

import unittest

from ledgerloom.books import Book
from ledgerloom.errors import InvalidSheets
from tests.helper import (
    COLUMNS, ODD_THINGS, ROWS, VALUES_IN_ORDER, WRONG_EVERYWHERE, area, bush, call, cell, chain, found_at, is_plain,
    marks,
    number, own, paths, put_at, sheet, text, truth,
)

NO_VALUES = [
    ("number", 2, 2), ("number", 1, 0), ("number", 10 ** 15, 1), ("number", True, 1), ("number", 1), ("text", 1),
    ("text", "a" * 41),
    ("truth", 2), ("truth", True), ("truth", False), ("error", "odd"), ("error",), ("value", ("number", 1, 1)),
    ("", ""), 1, "a", "=",
]
NO_TREES = [
    None, (), 1, "1", ("number", 1, 1), ("value", None), ("value", ("error", "gone")), ("here", COLUMNS[0]),
    ("minus", ("here", COLUMNS[0])), call("sum", ("here", COLUMNS[0])), area("bills", 0, 0, 1, 1), call("sum"),
    ["minus", number(1)],
    ("minus", list(number(1))), ("op", ">", number(1), number(1)), ("cell", "bills", (True, "", 0, 0), COLUMNS[0]),
    ("=", number(1)), chain(13), bush(41),
]
# Two sheets without texts and numbers, so that nothing of them may be another odd thing.
SHEETS = (
    sheet("bills", 2, 3, {
        (0, 0): ("truth", 1), (0, 2): ("=", ("minus", cell("bills", 0, 0))), (1, 1): ("error", "kind"),
        (1, 2): ("=", call("sum", area("none", 1, 1, 0, 0), truth(0))),
    }),
    sheet("notes", 1, 1, {(0, 0): ("=", ("if", truth(1), cell("bills", 0, 0), cell("notes", 0, 0)))}),
)


def one(rows, columns, contents=()):
    """Sheets of one sheet, with contents by place."""
    return (sheet("bills", rows, columns, dict(contents)),)


class SheetsTest(unittest.TestCase):
    def let(self, sheets):
        for same in (sheets, own(sheets)):
            found = Book("ann", same, (), (), ()).sheets
            self.assertEqual(found, sheets)
            self.assertTrue(is_plain(found))

    def barred(self, sheets):
        with self.assertRaises(InvalidSheets) as caught:
            Book("ann", sheets, (), (), ())
        self.assertIs(caught.exception.value, sheets)

    def lets_content(self, content):
        self.let(one(2, 2, {(1, 1): content}))

    def bars_content(self, content):
        self.barred((("bills", ROWS[:2], COLUMNS[:2], ((ROWS[1], COLUMNS[1], content),)),))

    def test_some_sheets(self):
        self.let(SHEETS)
        self.let(one(3, 3))
        self.let(one(0, 12))
        self.let(one(30, 0))
        self.let(one(0, 0))
        self.let(one(1, 1, {(0, 0): ("text", "a")}))
        self.let((("all", (), (), ()),))

    def test_number_of_sheets(self):
        for many in range(1, 5):
            self.let(tuple(sheet(name, 2, 2, {}) for name in ("a", "b", "bb", "c")[:many]))
        self.barred(tuple(sheet(name, 2, 2, {}) for name in "abcde"))
        self.barred(tuple(sheet(name, 0, 0, {}) for name in "abcde"))
        self.barred(())

    def test_number_of_rows_and_columns(self):
        for rows, columns in ((30, 3), (29, 3), (8, 12), (8, 11), (30, 0), (0, 12)):
            self.let(one(rows, columns))
        for columns in (0, 1, 2):
            self.barred((("bills", marks(1, 31), COLUMNS[:columns], ()),))
        for rows in (0, 1, 2):
            self.barred((("bills", ROWS[:rows], COLUMNS[:13], ()),))
        self.barred((("bills", marks(1, 100), (), ()),))

    def test_number_of_places_over_all_sheets(self):
        self.let(one(10, 10))
        self.let(one(25, 4))
        self.barred(one(11, 10))
        self.barred(one(30, 12))
        ninety = sheet("a", 30, 3, {})
        self.let((ninety, sheet("b", 10, 1, {})))
        self.let((ninety, sheet("b", 2, 5, {}), sheet("c", 30, 0, {}), sheet("d", 0, 12, {})))
        self.barred((ninety, sheet("b", 11, 1, {})))
        self.barred((ninety, sheet("b", 2, 5, {}), sheet("c", 1, 1, {})))
        self.barred((sheet("a", 0, 0, {}), ninety, sheet("b", 3, 3, {}), sheet("c", 2, 1, {})))

    def test_a_sheet_whose_places_all_have_content(self):
        full = {
            (row, column): ("=", ("minus", cell("bills", row, column))) for row in range(10) for column in range(10)
        }
        self.let(one(10, 10, full))

    def test_names(self):
        for name in ("a", "zz", "abcdefgh", "all", "if", "sum", "gone"):
            self.let(((name, (), (), ()),))
        for name in ("", "abcdefghi", "A", "a1", "a b", " ", "\u00e4", 1, True, None, ("a",), ["a"], b"a"):
            self.barred(((name, (), (), ()),))
        for thing in ODD_THINGS:
            if thing not in ("ann", "value"):
                self.barred(((thing, (), (), ()),))

    def test_order_of_names(self):
        first, second, third = [sheet(name, 1, 1, {}) for name in ("a", "ab", "b")]
        self.let((first, second, third))
        for sheets in (
            (second, first), (first, third, second), (third, second, first), (first, first), (first, second, second),
            (second, first, second), (first, sheet("a", 2, 2, {})),
        ):
            self.barred(sheets)

    def test_marks_in_any_order_but_none_twice(self):
        rows = (ROWS[3], ROWS[0], (5, "bob", 7, 9), COLUMNS[1], (0, "", 0, 0), (999999, "all", 99, 99))
        self.let((("bills", rows, rows[::-1], ()), ("notes", rows[::-1], rows, ())))
        for twice in ((ROWS[0], ROWS[0]), (ROWS[0], ROWS[1], ROWS[0]), (ROWS[2], ROWS[1], ROWS[1])):
            self.barred((("bills", twice, COLUMNS[:1], ()),))
            self.barred((("bills", ROWS[:1], twice, ()),))
            self.barred((("bills", twice, (), ()),))

    def test_wrong_marks(self):
        for mark in [
            (True, "", 0, 0), (1, "", False, 0), (1, "", 0, True), (1000000, "", 0, 0), (1, "", 100, 0),
            (1, "", 0, 100), (-1, "", 0, 0),
            (1, "Ann", 0, 0), (1, None, 0, 0), (1, "", 0), (1, "", 0, 0, 0), [1, "", 0, 0], (), None, 1, "a",
            *ODD_THINGS,
        ]:
            self.barred((("bills", (mark,), (), ()),))
            self.barred((("bills", (), (mark,), ()),))
            self.barred((("bills", (ROWS[0], mark), (COLUMNS[0],), ()),))
            for content in (("truth", 1), ("=", number(1))):
                self.barred((("bills", (ROWS[0],), (COLUMNS[0],), ((mark, COLUMNS[0], content),)),))
                self.barred((("bills", (ROWS[0],), (COLUMNS[0],), ((ROWS[0], mark, content),)),))

    def test_a_bool_is_not_taken_for_the_integer_in_a_mark_that_is_there(self):
        rows, columns = ((1, "", 0, 0),), ((2, "", 1, 0),)
        self.let((("bills", rows, columns, ((rows[0], columns[0], ("truth", 1)),)),))
        for row in ((True, "", 0, 0), (1, "", False, 0), (1, "", 0, False)):
            self.barred((("bills", rows, columns, ((row, columns[0], ("truth", 1)),)),))
        self.barred((("bills", rows, columns, ((rows[0], (2, "", True, 0), ("truth", 1)),)),))

    def test_cells_stand_in_order(self):
        # The rows and columns of the sheet stand in another order than the cells.
        rows, columns = ROWS[3::-1], COLUMNS[2::-1]
        entries = [(row, column, ("truth", 0)) for row in ROWS[:4] for column in COLUMNS[:3]]
        self.let((("bills", rows, columns, tuple(entries)),))
        self.let((("bills", rows, columns, tuple(entries[::3])),))
        for cells in (
            tuple(entries[::-1]), (entries[1], entries[0]), (entries[0], entries[3], entries[2]),
            (entries[3], entries[1]),
            (entries[0], entries[0]), (entries[0], entries[1], entries[1]),
            (entries[2], entries[2][:2] + (("truth", 1),)),
            (entries[2][:2] + (("error", "kind"),), entries[2][:2] + (("=", number(1)),)),
        ):
            self.barred((("bills", rows, columns, cells),))

    def test_cells_of_rows_and_columns_that_are_not_there(self):
        content = ("truth", 1)
        for row, column in (
            (ROWS[2], COLUMNS[0]), (ROWS[0], COLUMNS[2]), (ROWS[9], COLUMNS[9]), (COLUMNS[0], ROWS[0]),
            (COLUMNS[0], COLUMNS[0]),
            (ROWS[0], ROWS[0]), ((1, "ann", 0, 0), COLUMNS[0]),
        ):
            self.barred((("bills", ROWS[:2], COLUMNS[:2], ((row, column, content),)),))
        self.barred((("bills", (), COLUMNS[:2], ((ROWS[0], COLUMNS[0], content),)),))
        self.barred((("bills", ROWS[:2], (), ((ROWS[0], COLUMNS[0], content),)),))
        self.barred((("a", (), (), ((ROWS[0], COLUMNS[0], content),)), sheet("b", 1, 1, {})))

    def test_contents(self):
        for value in VALUES_IN_ORDER[1:]:
            self.lets_content(value)
        for tree in (
            number(1), number(-1, 3), text("a"), truth(0), cell("bills", 1, 1), cell("bills", 9, 9), cell("none", 0, 0),
            ("minus", number(1)),
            ("op", "&", text("a"), number(1)), ("if", truth(1), text("a"), text("b")),
            call("most", area("bills", 0, 0, 1, 1)),
            call("sum", area("none", 0, 0, 1, 1), area("bills", 5, 5, 0, 0)), chain(12), bush(40),
        ):
            self.lets_content(("=", tree))

    def test_wrong_contents(self):
        for value in [None, *NO_VALUES, *ODD_THINGS]:
            self.bars_content(value)
        for value in VALUES_IN_ORDER[1:]:
            self.bars_content(list(value))
            self.bars_content(("=", value))
            self.bars_content(value + (1,))
        for tree in [*NO_TREES, *ODD_THINGS]:
            self.bars_content(("=", tree))
        for tree in (number(1), cell("bills", 0, 0)):
            for content in (
                tree, ["=", tree], ("=",), ("=", tree, tree), (tree,), ("==", tree), (None, tree), (True, tree),
                ("value", tree),
                (tree, "="), "=1", ("", tree),
            ):
                self.bars_content(content)

    def test_what_is_no_sheets_at_all(self):
        self.barred(SHEETS[0])
        for thing in [
            *ODD_THINGS, None, SHEETS, list(SHEETS), list(SHEETS[0]), "bills", Book("ann", SHEETS, (), (), ())
        ]:
            if thing != SHEETS:
                self.barred(thing)
            self.barred((thing,))
            self.barred(SHEETS + (thing,))

    def test_odd_things_in_each_place(self):
        for path in paths(SHEETS):
            for thing in WRONG_EVERYWHERE:
                self.barred(put_at(SHEETS, path, thing))
            part = found_at(SHEETS, path)
            if isinstance(part, tuple):
                self.barred(put_at(SHEETS, path, list(part)))
                for thing in WRONG_EVERYWHERE:
                    self.barred(put_at(SHEETS, path, part + (thing,)))

    def test_members_too_few_and_too_many(self):
        for whole in SHEETS:
            for many in range(4):
                self.barred((whole[:many],))
            self.barred((whole + ((),),))
            self.barred((whole[:3] + (None,),))
            for entry in whole[3]:
                for wrong in (entry[:2], entry[1:], entry + (None,), entry + (("truth", 1),), (entry,)):
                    self.barred((whole[:3] + ((wrong,),),))

    def test_great_things_are_told_quickly(self):
        entry = (ROWS[0], COLUMNS[0], ("truth", 1))
        self.barred((("bills", ROWS[:1], COLUMNS[:1], (entry,) * 7000),))
        self.barred((("bills", marks(1, 100) * 70, COLUMNS[:1], ()),))
        self.barred((("bills", (), (), ()),) * 6000)
        tree = number(1)
        for _ in range(50):
            tree = ("op", "+", tree, tree)
        self.bars_content(("=", tree))


if __name__ == "__main__":
    unittest.main()
