"""[9], [10], [16]: the value of a cell, by the tree that it holds."""

import unittest

from ledgerloom.errors import InvalidCell
from ledgerloom.meaning import all_values, needs, needs_in_all, on_rings, value_of
from ledgerloom.amounts import made_of
from ledgerloom.reckoning import Reckoner
from tests.helper import (
    COLUMNS, ODD_THINGS, ROWS, VALUES_IN_ORDER, area, at, book, call, cell, is_plain, number, own, sheet, text, truth,
)

SIGNS = ["+", "-", "*", "/", "&", "=", "<"]
MOST = 10 ** 15 - 1
GONE, RING, KIND, SIZE, ZERO = [("error", word) for word in ("gone", "ring", "kind", "size", "zero")]
YES, NO = ("truth", 1), ("truth", 0)
A, B = number(1), number(2)
NO_CELLS = [
    ("bills",), ("bills", ROWS[0]), ("bills", ROWS[0], COLUMNS[0], COLUMNS[0]), ("bills", COLUMNS[0], ROWS[0]),
    ("bills", ROWS[0], ROWS[0]),
    ["bills", ROWS[0], COLUMNS[0]], ("bills", list(ROWS[0]), COLUMNS[0]), ("bills", ROWS[0], list(COLUMNS[0])),
    ("bill", ROWS[0], COLUMNS[0]),
    ("Bills", ROWS[0], COLUMNS[0]), (None, ROWS[0], COLUMNS[0]), ("bills", None, COLUMNS[0]), ("bills", ROWS[0], None),
    ("bills", 0, 0),
    ("bills", 1, 1), ("bills", "1", "a"), "bills!a1", ("cell", "bills", ROWS[0], COLUMNS[0]), (ROWS[0], COLUMNS[0]),
    (("bills", ROWS[0], COLUMNS[0]),),
    ("bills", (True, "", 0, 0), COLUMNS[0]), ("bills", (1, "", False, 0), COLUMNS[0]),
    ("bills", (1, "", 0, False), COLUMNS[0]),
    ("bills", ROWS[0], (2, "", 0, False)), ("bills", ROWS[0], (2, "", False, 0)), ("bills", ROWS[0][:3], COLUMNS[0]),
    ("bills", ROWS[12], COLUMNS[0]), ("bills", ROWS[0], COLUMNS[3]), ("bills", (1, "ann", 0, 0), COLUMNS[0]),
    ("notes", ROWS[0], COLUMNS[0]),
    ("none", ROWS[0], COLUMNS[0]), None, *ODD_THINGS,
]


def column(*values):
    """The contents of the first column of a sheet, None for a cell without."""
    return {(row, 0): value for row, value in enumerate(values) if value is not None}


class ValueOfTest(unittest.TestCase):
    def is_value(self, some_book, some_cell, value):
        for same in (some_cell, own(some_cell)):
            found = value_of(some_book, same)
            self.assertEqual(found, value)
            self.assertTrue(is_plain(found))
        self.assertEqual(Reckoner(some_book).value(some_cell), value)

    def means(self, tree, value, contents=()):
        """Checks the meaning of a tree that stands in the last cell of a sheet of 4 rows and 4 columns."""
        for form in (lambda thing: thing, own):
            whole = sheet("bills", 4, 4, {**dict(contents), (3, 3): ("=", tree)})
            some_book = book(form(whole), ("empty", ROWS[:1], (), ()))
            self.is_value(some_book, at("bills", 3, 3), value)
            self.assertEqual(dict(all_values(some_book))[at("bills", 3, 3)], value)

    def test_without_content(self):
        some_book = book(sheet("bills", 2, 2, {(0, 0): YES}))
        for row, place in ((0, 1), (1, 0), (1, 1)):
            self.is_value(some_book, at("bills", row, place), None)

    def test_values(self):
        for value in VALUES_IN_ORDER[1:]:
            self.is_value(book(sheet("bills", 2, 2, {(1, 0): value})), at("bills", 1, 0), value)

    def test_trees_of_values(self):
        for value in VALUES_IN_ORDER[1:-5]:
            self.means(("value", value), value)

    def test_cells(self):
        for value in VALUES_IN_ORDER:
            contents = {(1, 2): value} if value is not None else {}
            self.means(cell("bills", 1, 2), value, contents)
            self.means(cell("bills", 0, 0), value, {(0, 0): ("=", cell("bills", 1, 2)), **contents})

    def test_cells_of_other_sheets(self):
        some_book = book(
            sheet("bills", 1, 1, {(0, 0): ("=", ("op", "+", cell("notes", 0, 0), cell("other", 1, 1)))}),
            sheet("notes", 1, 1, {(0, 0): ("=", cell("other", 0, 0))}),
            sheet("other", 2, 2, {(0, 0): ("number", 3, 1), (1, 1): ("number", 4, 1)}),
        )
        self.is_value(some_book, at("bills", 0, 0), ("number", 7, 1))
        self.is_value(some_book, at("notes", 0, 0), ("number", 3, 1))

    def test_cells_that_are_gone(self):
        for gone in (
            cell("none", 0, 0), cell("empty", 0, 0), cell("bills", 4, 0), cell("bills", 0, 4), cell("bills", 9, 9),
            ("cell", "bills", COLUMNS[0], ROWS[0]), ("cell", "bills", (1, "ann", 0, 0), COLUMNS[0]),
        ):
            self.means(gone, GONE)
            self.means(("minus", gone), GONE)
            self.means(("op", "=", A, gone), GONE)
            self.means(call("count", A, gone), GONE)
            self.means(("if", gone, A, B), GONE)
            self.means(("if", truth(1), A, gone), ("number", 1, 1))

    def test_minus(self):
        for value in VALUES_IN_ORDER:
            contents = {(0, 0): value} if value is not None else {}
            self.means(("minus", cell("bills", 0, 0)), made_of("-", ("number", 0, 1), value), contents)
        self.means(("minus", number(2, 3)), ("number", -2, 3))
        self.means(("minus", number(0)), ("number", 0, 1))
        self.means(("minus", cell("bills", 0, 0)), ("number", 0, 1))
        self.means(("minus", text("1")), KIND)
        self.means(("minus", ("minus", ("minus", number(-5)))), ("number", 5, 1))

    def test_each_sign(self):
        values = [
            None, ("number", -1, 2), ("number", 0, 1), ("number", MOST, 1), ("text", "a"), ("text", "x" * 40), YES, NO,
            ZERO, GONE,
        ]
        for sign in SIGNS:
            for one in values:
                for other in values:
                    contents = {place: value for place, value in (((0, 0), one), ((1, 1), other)) if value is not None}
                    tree = ("op", sign, cell("bills", 0, 0), cell("bills", 1, 1))
                    self.means(tree, made_of(sign, one, other), contents)

    def test_some_ops(self):
        self.means(("op", "-", number(1), number(1, 3)), ("number", 2, 3))
        self.means(("op", "/", number(1), number(0)), ZERO)
        self.means(("op", "*", number(MOST), number(2)), SIZE)
        self.means(("op", "&", number(1, 2), truth(0)), ("text", "1/2no"))
        self.means(("op", "<", text("a"), number(1)), KIND)
        self.means(("op", "=", cell("bills", 0, 0), number(0)), NO)
        self.means(("op", "+", cell("bills", 0, 0), number(4)), ("number", 4, 1))
        self.means(("op", "+", ("op", "/", A, number(0)), ("op", "+", A, text("a"))), ZERO)
        self.means(("op", "+", ("op", "+", A, text("a")), ("op", "/", A, number(0))), KIND)
        self.means(("op", "*", ("op", "+", A, B), ("op", "-", B, number(7))), ("number", -15, 1))
        # Each sign by itself is exact, and too long a number between is an error of the whole.
        self.means(("op", "-", ("op", "+", number(MOST), A), A), SIZE)

    def test_if(self):
        for test, value in (
            (truth(1), ("number", 1, 1)), (truth(0), ("number", 2, 1)), (number(1), KIND), (number(0), KIND),
            (text("yes"), KIND), (text(""), KIND),
            (cell("bills", 0, 0), KIND), (cell("none", 0, 0), GONE), (("op", "/", A, number(0)), ZERO),
            (("op", "+", A, text("a")), KIND),
            (("op", "<", A, B), ("number", 1, 1)), (("op", "<", B, A), ("number", 2, 1)),
            (("op", "=", A, text("1")), ("number", 2, 1)),
        ):
            self.means(("if", test, A, B), value)
            self.means(("op", "+", ("if", test, A, B), number(0)), value)
        for error in (GONE, RING, KIND, SIZE, ZERO):
            self.means(("if", cell("bills", 0, 0), A, B), error, {(0, 0): error})

    def test_the_branch_of_an_if_that_is_not_taken_does_not_count(self):
        zero = ("op", "/", A, number(0))
        self.means(("if", truth(1), text("a"), zero), ("text", "a"))
        self.means(("if", truth(0), zero, text("a")), ("text", "a"))
        self.means(("if", truth(1), zero, text("a")), ZERO)
        self.means(("if", zero, cell("none", 0, 0), cell("none", 0, 0)), ZERO)
        self.means(("if", truth(1), cell("bills", 0, 0), zero), None)

    def test_count(self):
        members = [number(1), cell("bills", 0, 0), text(""), truth(0), cell("bills", 0, 1), number(0)]
        self.means(call("count", *members), ("number", 4, 1))
        self.means(call("count", cell("bills", 0, 0)), ("number", 0, 1))
        self.means(call("count", area("bills", 0, 0, 2, 2)), ("number", 0, 1))
        self.means(call("count", area("bills", 0, 0, 2, 2)), ("number", 2, 1), {(0, 1): YES, (2, 2): ("text", "")})
        self.means(
            call("count", area("bills", 0, 0, 2, 2), area("bills", 0, 1, 0, 1)), ("number", 3, 1),
            {(0, 1): YES, (2, 2): ("text", "")},
        )

    def test_sum(self):
        self.means(call("sum", A, B, number(1, 2)), ("number", 7, 2))
        self.means(call("sum", text("5"), truth(1), cell("bills", 0, 0)), ("number", 0, 1))
        self.means(call("sum", text("5"), A, truth(1)), ("number", 1, 1))
        self.means(call("sum", number(1, 3), number(1, 6), number(-1, 2)), ("number", 0, 1))
        self.means(call("sum", number(1, 3), number(1, 6)), ("number", 1, 2))
        self.means(
            call("sum", area("bills", 0, 0, 2, 0)), ("number", 5, 1),
            column(("number", 2, 1), ("text", "7"), ("number", 3, 1)),
        )

    def test_only_the_whole_sum_may_be_too_long(self):
        self.means(call("sum", number(MOST), number(MOST), number(-MOST)), ("number", MOST, 1))
        self.means(call("sum", number(-MOST), number(-MOST), number(MOST), number(MOST)), ("number", 0, 1))
        self.means(call("sum", number(MOST), number(1)), SIZE)
        self.means(call("sum", number(-MOST), number(-1)), SIZE)
        self.means(call("sum", number(MOST), number(1), number(-1)), ("number", MOST, 1))
        self.means(call("sum", number(1, MOST), number(1, MOST - 1)), SIZE)
        self.means(
            call("sum", number(1, MOST), number(1, MOST - 1), number(-1, MOST), number(-1, MOST - 1)), ("number", 0, 1)
        )
        self.means(call("sum", number(1, MOST), number(1, MOST - 1), number(3), number(-1, MOST - 1)), SIZE)
        self.means(call("sum", number(MOST), number(1, 2), number(1, 3), number(1, 6), number(-1)), ("number", MOST, 1))
        self.means(call("sum", call("sum", number(MOST), A), number(-1)), SIZE)

    def test_least_and_most(self):
        for word, told in (("least", ("number", -3, 2)), ("most", ("number", 7, 3))):
            self.means(call(word, number(2), number(-3, 2), number(7, 3), number(-1)), told)
            self.means(call(word, number(7, 3), text("a"), number(-3, 2), truth(1), cell("bills", 0, 0)), told)
            self.means(call(word, area("bills", 0, 0, 2, 0)), told, column(("number", -3, 2), YES, ("number", 7, 3)))
        self.means(call("most", number(-2), cell("bills", 0, 0)), ("number", -2, 1))
        self.means(call("least", number(2), cell("bills", 0, 0)), ("number", 2, 1))
        self.means(
            call("most", number(1, 3), number(333333333333333, 999999999999998)),
            ("number", 333333333333333, 999999999999998),
        )
        self.means(call("least", number(1, 3), number(333333333333333, 999999999999998)), ("number", 1, 3))

    def test_least_and_most_of_none(self):
        for word in ("least", "most"):
            self.means(call(word, text("1"), truth(0)), None)
            self.means(call(word, cell("bills", 0, 0)), None)
            self.means(call(word, area("bills", 0, 0, 2, 2)), None)
            self.means(("op", "+", call(word, cell("bills", 0, 0)), A), ("number", 1, 1))
            self.means(call("count", call(word, text("")), A), ("number", 1, 1))

    def test_the_first_error_among_members(self):
        errors = [
            ("value", ("number", 1, 1)), cell("bills", 0, 0), cell("bills", 1, 0), area("bills", 0, 1, 1, 2),
            cell("none", 0, 0),
        ]
        contents = {(0, 0): ZERO, (1, 0): KIND, (1, 1): RING, (1, 2): SIZE}
        told = [None, ZERO, KIND, RING, GONE]
        for word in ("sum", "count", "least", "most"):
            for one in range(1, 5):
                for other in range(1, 5):
                    self.means(call(word, errors[0], errors[one], errors[0], errors[other]), told[one], contents)
                    self.means(call(word, text("a"), errors[one]), told[one], contents)

    def test_the_first_error_of_an_area_as_its_rows_and_columns_stand(self):
        rows, columns = (ROWS[2], ROWS[0], ROWS[1]), (COLUMNS[1], COLUMNS[2], COLUMNS[0], COLUMNS[3])
        for word in ("sum", "count", "least", "most"):
            for corners in (
                (ROWS[2], COLUMNS[1], ROWS[1], COLUMNS[0]), (ROWS[1], COLUMNS[0], ROWS[2], COLUMNS[1]),
                (ROWS[1], COLUMNS[1], ROWS[2], COLUMNS[0]),
            ):
                formula = (ROWS[1], COLUMNS[3], ("=", call(word, ("area", "bills", *corners))))
                for first, last in (
                    # The row counts ahead of the column, and both as they stand, not by their marks.
                    ((ROWS[2], COLUMNS[0]), (ROWS[0], COLUMNS[1])), ((ROWS[0], COLUMNS[0]), (ROWS[1], COLUMNS[1])),
                    ((ROWS[0], COLUMNS[1]), (ROWS[0], COLUMNS[0])), ((ROWS[2], COLUMNS[2]), (ROWS[2], COLUMNS[0])),
                ):
                    cells = sorted([(*first, ZERO), (*last, KIND), formula])
                    self.is_value(book(("bills", rows, columns, tuple(cells))), ("bills", ROWS[1], COLUMNS[3]), ZERO)

    def test_areas_from_any_corner_to_any_other(self):
        contents = {(row, place): ("number", 10 ** (3 * row + place), 1) for row in range(3) for place in range(3)}
        for row in range(3):
            for place in range(3):
                for row2 in range(3):
                    for place2 in range(3):
                        told = sum(
                            contents[some, other][1]
                            for some in range(min(row, row2), max(row, row2) + 1)
                            for other in range(min(place, place2), max(place, place2) + 1)
                        )
                        self.means(call("sum", area("bills", row, place, row2, place2)), ("number", told, 1), contents)

    def test_areas_hang_on_where_rows_and_columns_stand(self):
        contents = {(row, 0): ("number", 10 ** row, 1) for row in range(4)}
        cells = sheet("bills", 4, 1, contents)[3] + (
            (ROWS[4], COLUMNS[0], ("=", call("sum", area("bills", 0, 0, 2, 0)))),
        )
        for places, told in (
            ((0, 1, 2, 3), 111), ((0, 3, 1, 2), 1111), ((0, 2, 1, 3), 101), ((2, 1, 3, 0), 1111), ((1, 2, 3, 0), 1101)
        ):
            rows = tuple(ROWS[place] for place in places) + (ROWS[4],)
            self.is_value(book(("bills", rows, COLUMNS[:1], cells)), at("bills", 4, 0), ("number", told, 1))

    def test_areas_that_are_gone(self):
        for gone in (
            area("none", 0, 0, 1, 1), area("empty", 0, 0, 0, 0), area("bills", 4, 0, 1, 1), area("bills", 0, 4, 1, 1),
            area("bills", 0, 0, 4, 1),
            area("bills", 0, 0, 1, 4),
        ):
            for word in ("sum", "count", "least", "most"):
                self.means(call(word, gone), GONE)
                self.means(call(word, A, gone), GONE)
                self.means(call(word, cell("bills", 0, 0), gone), ZERO, {(0, 0): ZERO})
                self.means(call(word, gone, cell("bills", 0, 0)), GONE, {(0, 0): ZERO})

    def test_calls_within_calls(self):
        tree = call(
            "sum", call("count", area("bills", 0, 0, 2, 2)), call("most", A, B), ("minus", call("least", number(5)))
        )
        self.means(tree, ("number", 0, 1), {(0, 0): YES, (2, 2): ("text", "a"), (1, 1): NO})

    def test_chains_of_cells(self):
        some_book = book(sheet("bills", 4, 2, {
            (0, 0): ("number", 2, 1),
            (0, 1): ("=", ("op", "*", cell("bills", 0, 0), cell("bills", 0, 0))),
            (1, 0): ("=", ("op", "&", cell("bills", 0, 1), text("!"))),
            (1, 1): ("=", call("count", area("bills", 0, 0, 1, 0))),
            (2, 0): (
                "=", ("if", ("op", "<", cell("bills", 1, 1), number(3)), cell("bills", 1, 0), cell("bills", 3, 1))
            ),
            (3, 1): ("=", cell("bills", 3, 0)),
        }))
        told = [("number", 2, 1), ("number", 4, 1), ("text", "4!"), ("number", 2, 1), ("text", "4!"), None]
        cells = [at("bills", *place) for place in ((0, 0), (0, 1), (1, 0), (1, 1), (2, 0), (3, 1))]
        self.assertEqual(all_values(some_book), tuple(zip(cells, told)))
        for some_cell, value in zip(cells, told):
            self.is_value(some_book, some_cell, value)

    def test_an_error_is_a_value_like_others(self):
        for error in (GONE, RING, KIND, SIZE, ZERO):
            some_book = book(sheet("bills", 2, 1, column(error, ("=", cell("bills", 0, 0)))))
            self.is_value(some_book, at("bills", 1, 0), error)
            self.assertEqual(on_rings(some_book), ())


class AllValuesTest(unittest.TestCase):
    def test_of_none(self):
        for some_book in (book(("bills", (), (), ())), book(sheet("a", 3, 3, {}), sheet("b", 1, 1, {}))):
            self.assertEqual(all_values(some_book), ())
            self.assertIs(type(all_values(some_book)), tuple)

    def test_ascending_and_plain(self):
        rows, columns = ROWS[2::-1], COLUMNS[2::-1]
        entries = [(row, place, ("=", cell("b", 0, 0))) for row in ROWS[:3] for place in COLUMNS[:3]]
        sheets = (("b", rows, columns, tuple(entries)), ("c", rows, columns, tuple(entries[::2])))
        for same in (sheets, own(sheets)):
            some_book = book(sheet("a", 1, 1, {(0, 0): YES}), *same)
            found = all_values(book=some_book)
            self.assertTrue(is_plain(found))
            self.assertEqual(len(found), 15)
            self.assertEqual([pair[0] for pair in found], sorted(pair[0] for pair in found))
            self.assertEqual(found[0], (at("a", 0, 0), YES))
            self.assertEqual({pair[1] for pair in found[1:]}, {RING})

    def test_only_cells_with_content(self):
        some_book = book(sheet("bills", 3, 3, {(0, 0): ("=", cell("bills", 2, 2)), (1, 1): ("=", area_sum())}))
        self.assertEqual(all_values(some_book), ((at("bills", 0, 0), None), (at("bills", 1, 1), ("number", 0, 1))))

    def test_a_book_made_anew_gives_the_same(self):
        whole = sheet(
            "bills", 3, 3,
            {(0, 0): ("=", cell("bills", 2, 2)), (1, 1): ("=", area_sum()), (2, 2): ("=", cell("bills", 0, 0))},
        )
        one, other = book(whole), book(own(whole), owner="bob", rights=(("all", "bills", None, "none"),))
        self.assertEqual(all_values(one), all_values(other))
        self.assertEqual(all_values(one), all_values(one))
        self.assertEqual(on_rings(one), on_rings(other))


def area_sum():
    """The tree of a sum over the last row."""
    return call("sum", area("bills", 2, 0, 2, 2))


class WrongCellsTest(unittest.TestCase):
    def test_what_is_no_cell_of_the_book(self):
        some_book = book(
            sheet("bills", 12, 3, {(0, 0): YES, (1, 1): ("=", cell("bills", 12, 0))}), ("notes", ROWS[:2], (), ())
        )
        for ask in (value_of, needs, needs_in_all, lambda one, other: Reckoner(one).value(other)):
            for wrong in NO_CELLS:
                with self.assertRaises(InvalidCell) as caught:
                    ask(some_book, wrong)
                self.assertIs(caught.exception.value, wrong)

    def test_by_name(self):
        some_book = book(sheet("bills", 2, 2, {(1, 1): ("=", ("minus", cell("bills", 0, 0)))}))
        some_cell = at("bills", 1, 1)
        self.assertEqual(value_of(cell=some_cell, book=some_book), ("number", 0, 1))
        self.assertEqual(needs(cell=some_cell, book=some_book), (at("bills", 0, 0),))
        self.assertEqual(needs_in_all(cell=some_cell, book=some_book), (at("bills", 0, 0),))
        self.assertEqual(on_rings(book=some_book), ())


if __name__ == "__main__":
    unittest.main()
