"""[16], [17]: what cells need, also in all, and which cells are on rings."""

import unittest

from ledgerloom.meaning import all_values, needs, needs_in_all, on_rings, value_of
from tests import model
from tests.helper import COLUMNS, ROWS, area, at, book, call, cell, is_plain, number, own, sheet, text, truth

RING = ("error", "ring")
ZERO = ("error", "zero")
A = number(1)


def row_of(*trees):
    """The book of one row of one sheet, its cells holding these trees, None for no content."""
    contents = {(0, place): ("=", tree) for place, tree in enumerate(trees) if tree is not None}
    return book(sheet("bills", 1, len(trees), contents))


def here(*places):
    """The cells of the one row at these places."""
    return tuple(at("bills", 0, place) for place in places)


def plus(*places):
    """The tree of the sum, by signs, of the cells of the one row at these places."""
    tree = cell("bills", 0, places[0])
    for place in places[1:]:
        tree = ("op", "+", tree, cell("bills", 0, place))
    return tree


class NeedsTest(unittest.TestCase):
    def need(self, some_book, some_cell, told):
        for same in (some_cell, own(some_cell)):
            found = needs(some_book, same)
            self.assertEqual(found, told)
            self.assertTrue(is_plain(found))

    def test_without_a_formula(self):
        contents = [None, ("number", 1, 1), ("text", "bills!a1"), ("truth", 1), ("error", "ring")]
        some_book = book(
            sheet("bills", 1, 5, {(0, place): content for place, content in enumerate(contents) if content is not None})
        )
        for place in range(5):
            self.need(some_book, at("bills", 0, place), ())
            self.assertEqual(needs_in_all(some_book, at("bills", 0, place)), ())

    def test_formulas_of_each_kind(self):
        one, other, third = [cell("bills", 0, place) for place in (3, 1, 2)]
        for tree, places in (
            (A, ()), (text("a"), ()), (one, (3,)), (("minus", one), (3,)), (("op", "&", one, other), (1, 3)),
            (("op", "=", one, one), (3,)),
            (("if", one, other, third), (1, 2, 3)), (("if", truth(1), other, third), (1, 2)),
            (("if", truth(0), A, third), (2,)),
            (call("sum", one, A, third), (2, 3)), (call("count", call("least", one), ("minus", other)), (1, 3)),
            (call("sum", area("bills", 0, 1, 0, 3)), (1, 2, 3)), (call("sum", area("bills", 0, 3, 0, 1)), (1, 2, 3)),
            (call("sum", area("bills", 0, 1, 0, 2), area("bills", 0, 2, 0, 3), third), (1, 2, 3)),
            (cell("bills", 0, 0), (0,)),
            (call("sum", area("bills", 0, 0, 0, 3)), (0, 1, 2, 3)),
        ):
            self.need(row_of(tree, None, None, A), at("bills", 0, 0), here(*places))

    def test_what_is_gone_is_not_needed(self):
        for gone in (
            cell("none", 0, 0), cell("bills", 5, 0), cell("bills", 0, 9), call("sum", area("bills", 0, 0, 5, 1)),
            call("sum", area("none", 0, 0, 0, 0)),
        ):
            self.need(row_of(gone, A), at("bills", 0, 0), ())
            self.need(row_of(("op", "+", gone, cell("bills", 0, 1)), A), at("bills", 0, 0), here(1))

    def test_each_once_and_ascending(self):
        # The marks descend in the order of rows and columns, and the sheets are named against their order.
        rows, columns = ROWS[3::-1], COLUMNS[2::-1]
        tree = call(
            "sum", area("z", 2, 1, 0, 0), area("a", 3, 2, 0, 0), cell("z", 1, 1), cell("a", 0, 0), area("z", 3, 0, 0, 2)
        )
        some_book = book(("a", rows, columns, ()), sheet("b", 1, 1, {(0, 0): ("=", tree)}), ("z", rows, columns, ()))
        told = tuple((name, row, column) for name in "az" for row in ROWS[:4] for column in COLUMNS[:3])
        self.need(some_book, at("b", 0, 0), told)
        self.assertEqual(needs_in_all(some_book, at("b", 0, 0)), told)


class NeedsInAllTest(unittest.TestCase):
    def need(self, some_book, some_cell, told):
        for same in (some_cell, own(some_cell)):
            found = needs_in_all(some_book, same)
            self.assertEqual(found, told)
            self.assertTrue(is_plain(found))

    def test_a_chain(self):
        some_book = row_of(None, *[plus(place) for place in range(7)])
        for place in range(8):
            self.need(some_book, at("bills", 0, place), here(*range(place)))

    def test_what_forks_and_meets(self):
        some_book = row_of(plus(1, 2), plus(3), plus(3, 4), plus(5), None, A)
        for place, told in enumerate([(1, 2, 3, 4, 5), (3, 5), (3, 4, 5), (5,), (), ()]):
            self.need(some_book, at("bills", 0, place), here(*told))

    def test_a_ring_and_what_leads_to_it(self):
        some_book = row_of(plus(1), plus(2, 5), plus(0), plus(2), plus(3, 6), A, None, plus(5))
        for place, told in enumerate(
            [(0, 1, 2, 5), (0, 1, 2, 5), (0, 1, 2, 5), (0, 1, 2, 5), (0, 1, 2, 3, 5, 6), (), (), (5,)]
        ):
            self.need(some_book, at("bills", 0, place), here(*told))

    def test_a_cell_that_needs_itself(self):
        some_book = row_of(plus(0), plus(0), plus(2, 3), None)
        for place, told in enumerate([(0,), (0,), (2, 3), ()]):
            self.need(some_book, at("bills", 0, place), here(*told))

    def test_across_sheets(self):
        some_book = book(
            sheet("a", 1, 1, {(0, 0): ("=", cell("b", 0, 0))}),
            sheet("b", 1, 2, {(0, 0): ("=", cell("c", 1, 1)), (0, 1): ("=", cell("none", 0, 0))}),
            sheet("c", 2, 2, {(1, 1): ("=", call("sum", area("c", 0, 0, 0, 1), cell("b", 0, 1)))}),
        )
        self.need(some_book, at("a", 0, 0), (at("b", 0, 0), at("b", 0, 1), at("c", 0, 0), at("c", 0, 1), at("c", 1, 1)))


class RingsTest(unittest.TestCase):
    def rings(self, some_book, *cells):
        self.assertEqual(on_rings(some_book), tuple(sorted(cells)))
        self.assertTrue(is_plain(on_rings(some_book)))
        for some_cell in model.all_cells(some_book):
            self.assertEqual(some_cell in needs_in_all(some_book, some_cell), some_cell in cells)
            if some_cell in cells:
                self.assertEqual(value_of(some_book, some_cell), RING)

    def test_none(self):
        self.rings(book(("bills", (), (), ())))
        self.rings(row_of(None, A, plus(0), plus(2, 1)))

    def test_of_one_cell(self):
        for tree in (
            plus(0), ("minus", plus(0)), plus(1, 0), call("sum", plus(0)), call("count", area("bills", 0, 0, 0, 1)),
            call("most", area("bills", 0, 1, 0, 0)),
            ("if", plus(0), A, A), ("if", truth(1), A, plus(0)), ("if", truth(0), plus(0), A),
            ("op", "=", plus(0), plus(0)),
            ("if", ("op", "/", A, number(0)), plus(0), A),
        ):
            self.rings(row_of(tree, A), at("bills", 0, 0))

    def test_of_several_cells(self):
        for many in range(2, 9):
            some_book = row_of(*[plus((place + 1) % many) for place in range(many)], plus(0), None)
            self.rings(some_book, *here(*range(many)))
            self.assertEqual(value_of(some_book, at("bills", 0, many)), RING)

    def test_cells_that_need_a_ring_are_not_on_it(self):
        some_book = row_of(
            plus(1), plus(0), plus(1), call("count", plus(2)), ("if", truth(1), A, plus(0)),
            ("op", "+", ("op", "/", A, number(0)), plus(0)),
        )
        self.rings(some_book, *here(0, 1))
        told = [RING, RING, RING, RING, ("number", 1, 1), ZERO]
        self.assertEqual([value for _, value in all_values(some_book)], told)
        for place, value in enumerate(told):
            self.assertEqual(value_of(some_book, at("bills", 0, place)), value)

    def test_cells_between_two_rings_are_on_none(self):
        some_book = row_of(plus(1), plus(0), plus(1), plus(2, 4), plus(3), plus(4), plus(6, 5))
        self.rings(some_book, *here(0, 1, 3, 4, 6))
        some_book = row_of(plus(1), plus(0), plus(0), plus(4, 2), plus(3))
        self.rings(some_book, *here(0, 1, 3, 4))
        self.assertEqual(value_of(some_book, at("bills", 0, 2)), RING)

    def test_two_rings_through_one_cell(self):
        self.rings(row_of(plus(1, 2), plus(0), plus(0, 3), None), *here(0, 1, 2))
        self.rings(row_of(plus(1), plus(2), plus(0, 3), plus(2), plus(3)), *here(0, 1, 2, 3))

    def test_through_branches_that_are_not_taken(self):
        some_book = row_of(("if", truth(1), A, plus(1)), ("if", truth(0), plus(0), A))
        self.rings(some_book, *here(0, 1))
        some_book = row_of(("if", ("op", "=", A, A), A, plus(1)), plus(2), None)
        self.rings(some_book)
        self.assertEqual(value_of(some_book, at("bills", 0, 0)), ("number", 1, 1))

    def test_through_areas(self):
        some_book = book(sheet("bills", 3, 3, {
            (1, 1): ("=", call("sum", area("bills", 2, 0, 2, 2))),
            (2, 2): ("=", call("count", area("bills", 1, 2, 0, 0))),
            (0, 0): ("=", call("sum", area("bills", 0, 1, 2, 2))),
        }))
        self.rings(some_book, at("bills", 0, 0), at("bills", 1, 1), at("bills", 2, 2))
        some_book = book(
            sheet("bills", 3, 3, {(1, 1): ("=", call("sum", area("bills", 0, 0, 0, 2), area("bills", 2, 0, 2, 2)))})
        )
        self.rings(some_book)

    def test_an_area_that_grows_by_a_row_closes_a_ring(self):
        cells = ((ROWS[1], COLUMNS[0], ("=", call("sum", area("bills", 0, 0, 2, 0)))),)
        self.rings(book(("bills", (ROWS[0], ROWS[1], ROWS[2]), COLUMNS[:1], cells)), at("bills", 1, 0))
        self.rings(book(("bills", (ROWS[0], ROWS[2], ROWS[1]), COLUMNS[:1], cells)))
        self.rings(book(("bills", (ROWS[0], ROWS[1]), COLUMNS[:1], cells)))

    def test_across_sheets(self):
        some_book = book(
            sheet("a", 1, 2, {(0, 0): ("=", cell("b", 0, 0)), (0, 1): ("=", cell("a", 0, 0))}),
            sheet("b", 1, 1, {(0, 0): ("=", ("minus", cell("c", 0, 0)))}),
            sheet("c", 1, 1, {(0, 0): ("=", call("sum", area("a", 0, 0, 0, 0)))}),
        )
        self.rings(some_book, at("a", 0, 0), at("b", 0, 0), at("c", 0, 0))

    def test_what_is_gone_closes_no_ring(self):
        self.rings(row_of(call("sum", area("bills", 0, 0, 5, 0)), ("op", "+", cell("none", 0, 0), cell("bills", 9, 9))))

    def test_ascending(self):
        rows, columns = ROWS[2::-1], COLUMNS[1::-1]
        tree = call("sum", ("area", "a", ROWS[0], COLUMNS[0], ROWS[2], COLUMNS[1]))
        cells = tuple((row, column, ("=", tree)) for row in ROWS[:3] for column in COLUMNS[:2])
        some_book = book(("a", rows, columns, cells), ("b", rows, columns, cells))
        self.rings(some_book, *[("a", row, column) for row in rows for column in columns])


if __name__ == "__main__":
    unittest.main()
