"""[18]: what is changed between two books, and what is reached from some cells."""

import random
import unittest

from ledgerloom.errors import InvalidCell
from ledgerloom.meaning import value_of
from ledgerloom.reckoning import changed, reached
from tests import chance, model
from tests.helper import (
    COLUMNS, ODD_THINGS, ROWS, VALUES_IN_ORDER, area, at, book, call, cell, is_plain, number, own, sheet, text, truth,
)

A = number(1)
SUM = ("=", call("sum", area("bills", 0, 0, 2, 0)))


def bills(rows, columns, *cells, name="bills"):
    """A sheet of the rows and columns with these numbers, of contents by the numbers of row and column."""
    filled = sorted((ROWS[row], COLUMNS[column], content) for row, column, content in cells)
    return (name, tuple(ROWS[row] for row in rows), tuple(COLUMNS[column] for column in columns), tuple(filled))


class ChangedTest(unittest.TestCase):
    def change(self, before, after, *cells):
        """Checks that just these cells are changed, told by the numbers of their rows and columns."""
        before = before if isinstance(before, list) else [before]
        after = after if isinstance(after, list) else [after]
        told = tuple(sorted(some if len(some) == 3 else at("bills", *some) for some in cells))
        for one, other in (
            (book(*before), book(*after)), (book(*own(tuple(before))), book(*own(tuple(after)), owner="bob"))
        ):
            found = changed(one, other)
            self.assertEqual(found, told)
            self.assertTrue(is_plain(found))
            self.assertEqual(changed(before=one, after=other), told)

    def test_nothing(self):
        for whole in (
            bills((), ()), bills((0, 1), (0,)), bills((0, 1, 2, 3), (0, 1), (0, 0, ("truth", 1)), (3, 1, SUM))
        ):
            self.change(whole, whole)

    def test_contents(self):
        contents = [
            None, *VALUES_IN_ORDER[1:], ("=", A), ("=", text("a")), ("=", cell("bills", 1, 1)),
            ("=", cell("none", 0, 0)), SUM,
        ]
        for one in contents:
            for other in contents:
                before = bills((0, 1), (0, 1), *([(0, 1, one)] if one else []))
                after = bills((0, 1), (0, 1), *([(0, 1, other)] if other else []))
                self.change(before, after, *([(0, 1)] if one != other else []))

    def test_a_truth_is_not_taken_for_a_number_nor_for_the_other_truth(self):
        contents = [
            ("truth", 0), ("truth", 1), ("number", 0, 1), ("number", 1, 1), ("text", "1"),
            ("=", ("value", ("truth", 1))), ("=", A),
        ]
        for one in contents:
            for other in contents:
                self.change(
                    bills((0,), (0,), (0, 0, one)), bills((0,), (0,), (0, 0, other)),
                    *([(0, 0)] if one is not other else []),
                )

    def test_cells_that_need_changed_ones_are_not_changed_themselves(self):
        before = bills((0, 1, 2, 3), (0,), (0, 0, ("truth", 0)), (3, 0, SUM))
        after = bills((0, 1, 2, 3), (0,), (0, 0, ("truth", 1)), (3, 0, SUM))
        self.change(before, after, (0, 0))

    def test_new_cells(self):
        before = bills((0, 1), (0,), (0, 0, ("truth", 1)))
        after = bills((2, 0, 1), (1, 0), (0, 0, ("truth", 1)), (2, 0, ("truth", 1)), (1, 1, ("=", A)))
        self.change(before, after, (2, 0), (1, 1))
        self.change(after, before)

    def test_cells_of_a_new_sheet(self):
        notes = bills((0, 1), (0,), (0, 0, ("truth", 1)), (1, 0, ("=", cell("none", 0, 0))), name="notes")
        some_bills = bills((0,), (0,), (0, 0, ("=", cell("bills", 0, 0))))
        self.change(some_bills, [some_bills, notes], at("notes", 0, 0), at("notes", 1, 0))
        self.change([some_bills, notes], some_bills)
        self.change([some_bills, notes], notes)

    def test_cells_that_come_back_with_other_content(self):
        before = bills((0,), (0,), (0, 0, ("truth", 1)))
        self.change(before, bills((1,), (0,)))
        self.change(before, bills((0,), (0,)), (0, 0))
        self.change(bills((1,), (0,)), before, (0, 0))

    def test_rows_that_moved(self):
        cells = ((0, 1, ("=", cell("bills", 2, 0))), (1, 1, SUM), (3, 1, ("=", call("sum", area("bills", 3, 0, 3, 0)))))
        self.change(bills((0, 1, 2, 3), (0, 1), *cells), bills((0, 1, 2, 3), (1, 0), *cells))
        self.change(bills((0, 1, 2, 3), (0, 1), *cells), bills((3, 0, 1, 2), (0, 1), *cells))
        # The same cells in another order, also from the other end.
        self.change(bills((0, 1, 2, 3), (0, 1), *cells), bills((2, 1, 0, 3), (0, 1), *cells), (1, 1))
        self.change(bills((0, 1, 2, 3), (0, 1), *cells), bills((0, 2, 1, 3), (0, 1), *cells), (1, 1))
        self.change(bills((0, 1, 2, 3), (0, 1), *cells), bills((0, 3, 1, 2), (0, 1), *cells), (1, 1))

    def test_columns_that_moved(self):
        tree = call("most", area("bills", 0, 0, 1, 1))
        cells = ((3, 3, ("=", tree)), (3, 0, ("=", cell("bills", 0, 1))))
        before = bills((0, 1, 3), (0, 1, 2, 3), *cells)
        self.change(before, bills((0, 1, 3), (2, 0, 1, 3), *cells))
        for columns in ((1, 0, 2, 3), (0, 2, 1, 3), (2, 1, 0, 3), (0, 3, 1, 2)):
            self.change(before, bills((0, 1, 3), columns, *cells), (3, 3))

    def test_rows_that_came_and_went(self):
        cells = ((3, 1, SUM), (3, 0, ("=", cell("bills", 0, 0))))
        before = bills((0, 1, 2, 3), (0, 1), *cells)
        self.change(before, bills((0, 1, 4, 2, 3), (0, 1), *cells), (3, 1))
        self.change(before, bills((4, 0, 1, 2, 5, 3, 6), (0, 1), *cells))
        self.change(before, bills((0, 2, 3), (0, 1), *cells), (3, 1))
        self.change(before, bills((0, 1, 2, 3), (0, 2, 1), *cells))

    def test_what_is_gone_now_or_no_more(self):
        cells = ((3, 1, SUM), (3, 0, ("=", ("minus", cell("bills", 0, 0)))))
        whole, without = bills((0, 1, 2, 3), (0, 1), *cells), bills((1, 2, 3), (0, 1), *cells)
        self.change(whole, without, (3, 0), (3, 1))
        self.change(without, whole, (3, 0), (3, 1))
        self.change(without, without)
        self.change(without, bills((1, 3), (0, 1), *cells))
        self.change(without, bills((2, 4, 1, 3), (1, 0), *cells))
        self.change(whole, bills((0, 1, 3), (0, 1), *cells), (3, 1))
        self.change(bills((0, 1, 3), (0, 1), *cells), bills((1, 3), (0, 1), *cells), (3, 0))

    def test_sheets_that_are_gone_now_or_no_more(self):
        formulas = bills(
            (0, 1), (0,), (0, 0, ("=", cell("notes", 0, 0))), (1, 0, ("=", call("sum", area("notes", 0, 0, 1, 0))))
        )
        for notes, cells in (
            (bills((0, 1), (0,), name="notes"), [(0, 0), (1, 0)]), (bills((0,), (0,), name="notes"), [(0, 0)]),
            (bills((1,), (0,), name="notes"), []), (bills((), (), name="notes"), []),
        ):
            self.change([formulas, notes], formulas, *cells)
            self.change(formulas, [formulas, notes], *cells)

    def test_things_twice_in_a_tree(self):
        one = call("sum", area("bills", 0, 0, 1, 0), area("bills", 1, 0, 2, 0))
        cells = ((3, 1, ("=", one)),)
        before = bills((0, 1, 2, 3), (0, 1), *cells)
        self.change(before, bills((2, 0, 1, 3), (0, 1), *cells), (3, 1))
        self.change(before, bills((0, 1, 4, 2, 3), (0, 1), *cells), (3, 1))
        self.change(before, bills((3, 0, 1, 2), (0, 1), *cells))

    def test_what_stands_elsewhere_in_the_books_does_not_count(self):
        whole = bills((0, 1), (0,), (0, 0, ("=", cell("bills", 1, 0))))
        views = (("few", "bills", ("here", COLUMNS[0]), ()),)
        for other in (
            book(whole, views=views), book(whole, owner="bob"), book(whole, rights=(("all", "bills", None, "none"),))
        ):
            self.assertEqual(changed(book(whole), other), ())
            self.assertEqual(changed(other, book(whole)), ())

    def test_ascending(self):
        rows, columns = (3, 1, 2, 0), (2, 0, 1)
        full = [(row, column, ("truth", 1)) for row in rows for column in columns]
        before = [bills(rows, columns, name="a"), bills(rows, columns, name="z")]
        after = [bills(rows, columns, *full, name="a"), bills(rows, columns, *full, name="z")]
        self.change(before, after, *[at(name, row, column) for name in "az" for row in rows for column in columns])


class ReachedTest(unittest.TestCase):
    def setUp(self):
        # 1 and 2 need 0, 3 both of them; 4 and 5 are a ring that needs 3; 6 needs the ring; 7 needs nothing.
        trees = [None, (0,), (0, 0), (1, 2), (5, 3), (4,), (4,), None, (9,), None]
        contents = {}
        for place, needed in enumerate(trees):
            if needed:
                contents[0, place] = ("=", call("sum", *[cell("bills", 0, other) for other in needed]))
        self.book = book(sheet("bills", 1, 10, contents))

    def reach(self, places, told):
        cells = tuple(at("bills", 0, place) for place in places)
        for same in (cells, own(cells)):
            found = reached(self.book, same)
            self.assertEqual(found, tuple(at("bills", 0, place) for place in told))
            self.assertTrue(is_plain(found))

    def test_of_none(self):
        self.reach([], [])

    def test_of_one_cell(self):
        for place, told in enumerate([
            [0, 1, 2, 3, 4, 5, 6], [1, 3, 4, 5, 6], [2, 3, 4, 5, 6], [3, 4, 5, 6], [4, 5, 6], [4, 5, 6], [6], [7], [8],
            [8, 9],
        ]):
            self.reach([place], told)

    def test_of_several_and_of_all(self):
        self.reach([1, 7], [1, 3, 4, 5, 6, 7])
        self.reach([5, 6], [4, 5, 6])
        self.reach([7, 9], [7, 8, 9])
        self.reach(range(10), range(10))

    def test_through_areas_branches_and_sheets(self):
        some_book = book(
            sheet("a", 2, 2, {
                (0, 0): ("=", call("sum", area("b", 2, 2, 0, 0))), (1, 1): ("=", ("if", truth(1), A, cell("a", 0, 0))),
            }),
            sheet("b", 3, 3, {}),
            sheet("c", 1, 1, {(0, 0): ("=", ("minus", cell("a", 1, 1)))}),
        )
        self.assertEqual(
            reached(some_book, (at("b", 1, 1),)), (at("a", 0, 0), at("a", 1, 1), at("b", 1, 1), at("c", 0, 0))
        )
        self.assertEqual(reached(book=some_book, cells=(at("a", 1, 0),)), (at("a", 1, 0),))

    def test_refuses(self):
        cells = tuple(at("bills", 0, place) for place in range(10))
        for wrong in [
            cells[::-1], (cells[1], cells[0]), (cells[0], cells[0]), (cells[0], cells[2], cells[1]), cells + cells[-1:],
            list(cells), [], None,
            cells[0], (list(cells[0]),), (cells[0][:2],), (cells[0] + (COLUMNS[0],),), (cells[0], None), (None,), ((),),
            "bills", ("bills",),
            (("bills", ROWS[1], COLUMNS[0]),), (("bills", ROWS[0], COLUMNS[10]),), (("bill", ROWS[0], COLUMNS[0]),),
            (cells[0], ("notes", ROWS[0], COLUMNS[0])), (("bills", COLUMNS[0], ROWS[0]),),
            (("bills", (True, "", 0, 0), COLUMNS[0]),),
            (("bills", (1, "", False, 0), COLUMNS[0]),), (("bills", ROWS[0], (2, "", 0, False)), cells[1]),
            (("bills", ROWS[0], (2, "", 0, True)),), cells * 3000, {cells[0]: 1}, *ODD_THINGS,
        ]:
            if wrong == ():
                continue
            with self.assertRaises(InvalidCell) as caught:
                reached(self.book, wrong)
            self.assertIs(caught.exception.value, wrong)

    def test_a_list_is_refused_and_not_changed(self):
        cells = [at("bills", 0, 1), at("bills", 0, 0)]
        with self.assertRaises(InvalidCell) as caught:
            reached(self.book, cells)
        self.assertIs(caught.exception.value, cells)
        self.assertEqual(cells, [at("bills", 0, 1), at("bills", 0, 0)])


class ChangedAndReachedTest(unittest.TestCase):
    def test_as_told_of_many_books(self):
        dice = random.Random(18)
        for _ in range(80):
            before = chance.some_book(dice)
            for _ in range(6):
                after = chance.some_change(dice, before)
                for one, other in ((before, after), (after, before)):
                    found = changed(one, other)
                    self.assertEqual(list(found), model.changed(one, other))
                    self.assertEqual(list(reached(other, found)), model.reached(other, found))
                before = after

    def test_reached_of_some_cells_of_many_books(self):
        dice = random.Random(19)
        for _ in range(150):
            some_book = chance.some_book(dice)
            cells = model.all_cells(some_book)
            some = tuple(sorted(dice.sample(cells, dice.randint(0, len(cells)))))
            for start in (some, some[:1], (), tuple(cells)):
                self.assertEqual(list(reached(some_book, start)), model.reached(some_book, start))

    def test_what_is_not_reached_keeps_its_value(self):
        dice = random.Random(20)
        kept = 0
        for _ in range(60):
            before = chance.some_book(dice)
            for _ in range(6):
                after = chance.some_change(dice, before)
                anew = reached(after, changed(before, after))
                there = model.all_cells(before)
                for some in model.all_cells(after):
                    if some not in anew:
                        kept += 1
                        self.assertEqual(value_of(after, some), value_of(before, some) if some in there else None)
                before = after
        self.assertGreater(kept, 1000)

    def test_of_two_books_that_have_nothing_in_common(self):
        dice = random.Random(21)
        for _ in range(150):
            before, after = chance.some_book(dice), chance.some_book(dice)
            anew = reached(after, changed(before, after))
            self.assertEqual(list(changed(before, after)), model.changed(before, after))
            for some in model.all_cells(after):
                if some not in anew:
                    self.assertEqual(
                        value_of(after, some), value_of(before, some) if some in model.all_cells(before) else None
                    )


if __name__ == "__main__":
    unittest.main()
