"""[23], [10], [13]: which rows a view shows to a person, and in which order."""

import random
import unittest

from ledgerloom.errors import InvalidName
from ledgerloom.seeing import view_rows
from tests import chance, model_shown
from tests.helper import (
    COLUMNS, ODD_THINGS, ROWS, VALUES_IN_ORDER, OwnText, area, at, book, call, cell, is_plain, number, own, sheet, text,
    truth,
)
from tests.test_rights import NO_PERSONS

A, B, C = [("here", column) for column in COLUMNS[:3]]
NOT_THERE = ("here", COLUMNS[20])
YES = truth(1)
READ = (("bob", "bills", None, "read"),)


def down(*lines):
    """The sheet of these lines of contents, None for none."""
    contents = {(row, k): content for row, line in enumerate(lines) for k, content in enumerate(line) if content}
    return sheet("bills", len(lines), len(lines[0]) if lines else 3, contents)


def n(p):
    """The number value of an integer."""
    return ("number", p, 1)


class ViewRowsTest(unittest.TestCase):
    def looks(self, some_sheets, condition, order=(), rights=READ, person="bob", name="bills"):
        """The places of the rows that the view shows."""
        some_book = book(*some_sheets, views=(("few", name, condition, order),), rights=rights)
        found = view_rows(some_book, own(person), own("few"))
        self.assertTrue(is_plain(found))
        self.assertEqual(found, model_shown.view_rows(some_book, person, "few"))
        return [ROWS.index(row) for row in found]

    def test_conditions_of_each_kind(self):
        lines = (
            (n(1), ("text", "a"), ("truth", 1)), (n(2), ("text", "b"), ("truth", 0)), (n(3), None, ("error", "zero")),
            (None, ("=", ("minus", cell("bills", 1, 0))), ("=", ("op", "<", cell("bills", 0, 0), number(5)))),
        )
        for condition, places in (
            (YES, [0, 1, 2, 3]), (truth(0), []), (C, [0, 3]), (("op", "=", C, truth(0)), [1]),
            (("op", "<", A, number(3)), [0, 1, 3]), (("op", "<", number(1), A), [1, 2]),
            (("op", "=", B, text("b")), [1]), (("op", "=", A, number(0)), []),
            (("op", "=", ("op", "&", A, B), text("1a")), [0]),
            (("op", "=", ("minus", A), B), []), (("op", "<", B, A), [2, 3]),
            (("if", ("op", "=", A, number(2)), YES, truth(0)), [1]), (("if", C, YES, YES), [0, 1, 3]),
            (("op", "=", call("sum", A, A, A), number(9)), [2]), (("op", "=", call("count", A, B), number(1)), [2, 3]),
            (("op", "=", call("most", A, area("bills", 0, 0, 1, 0)), A), [1, 2]),
            (("op", "=", call("least", A, cell("bills", 2, 0)), A), [0, 1, 2]),
            (cell("bills", 0, 2), [0, 1, 2, 3]), (cell("bills", 1, 2), []), (cell("bills", 2, 2), []),
        ):
            self.assertEqual(self.looks([down(*lines)], condition), places, condition)
            self.assertEqual(self.looks([down(*lines)], condition, person="ann", rights=()), places, condition)
            self.assertEqual(self.looks([down(*lines)], condition, person="eve"), places if condition == YES else [])

    def test_what_is_no_truth_is_not_yes(self):
        contents = [None, n(1), n(0), ("text", "yes"), ("text", ""), ("truth", 0), ("error", "kind"), ("truth", 1)]
        contents += [("=", cell("bills", 8, 0)), ("=", cell("none", 0, 0)), ("=", YES), ("=", truth(0))]
        lines = [(content,) for content in contents]
        self.assertEqual(self.looks([down(*lines)], A), [7, 10])

    def test_here_in_each_place_of_a_tree(self):
        line = ((("truth", 1), n(4), ("text", "x")),)
        for condition in (
            A, ("op", "=", A, YES), ("op", "=", YES, A), ("if", A, A, B), ("if", ("op", "=", B, B), A, C),
            ("if", ("op", "<", B, B), C, A), ("op", "=", ("minus", B), number(-4)),
            ("op", "=", call("sum", B, B, number(1), B, B, B), number(21)),
            ("op", "=", call("count", A, B, C, NOT_THERE), number(4)),
            ("op", "=", ("op", "&", C, ("op", "&", B, A)), text("x4yes")),
            ("op", "=", call("sum", call("most", ("minus", ("minus", B)))), number(4)),
        ):
            self.assertEqual(self.looks([down(*line)], condition), [] if "count" in str(condition) else [0])

    def test_columns_that_are_not_there(self):
        lines = ((n(1),), (n(2),))
        for condition, places in (
            (NOT_THERE, []), (("op", "=", NOT_THERE, NOT_THERE), []), (("if", NOT_THERE, YES, YES), []),
            (("if", YES, YES, NOT_THERE), [0, 1]), (call("count", NOT_THERE), []), (B, []),
            (("if", ("op", "=", A, number(1)), YES, NOT_THERE), [0]), (("op", "<", call("sum", B), A), []),
            (("if", YES, YES, cell("none", 0, 0)), [0, 1]),
            (("if", YES, YES, call("sum", area("bills", 0, 0, 9, 0))), [0, 1]),
        ):
            self.assertEqual(self.looks([down(*lines)], condition), places)
            self.assertEqual(self.looks([down(*lines)], condition, rights=(), person="ann"), places)

    def test_cells_outside_the_row(self):
        lines = ((n(1), n(2)), (n(2), n(2)), (n(3), n(2)))
        notes = sheet("notes", 1, 1, {(0, 0): n(3)})
        for condition, places in (
            (("op", "=", A, cell("bills", 0, 1)), [1]),
            (("op", "<", A, call("sum", area("bills", 0, 0, 1, 0))), [0, 1]),
            (("op", "=", A, cell("notes", 0, 0)), [2]), (("op", "=", A, call("most", area("bills", 0, 0, 2, 1))), [2]),
        ):
            rights = READ + (("bob", "notes", None, "read"),)
            self.assertEqual(self.looks([down(*lines), notes], condition, rights=rights), places)
            less = [] if condition[3] == cell("notes", 0, 0) else places
            self.assertEqual(self.looks([down(*lines), notes], condition), less)

    def test_rows_with_cells_that_are_not_clear_are_not_shown(self):
        lines = (
            (n(1), n(1), ("=", cell("bills", 0, 0))), (n(2), n(2), ("=", cell("bills", 1, 1))), (n(3), None, n(3)),
            (n(4), n(1), None),
        )
        for hidden, condition, places in (
            (1, YES, [0, 1, 2, 3]), (1, ("op", "<", A, number(4)), [0, 1, 2]), (1, ("op", "=", B, B), []),
            (1, ("if", YES, YES, B), []), (1, ("op", "=", C, C), [0, 2, 3]), (1, ("op", "=", A, C), [0, 2]),
            (0, ("op", "=", C, C), [1, 2, 3]), (0, ("op", "=", C, B), [1]), (2, ("op", "=", A, B), [0, 1]),
            (2, ("if", ("op", "=", A, B), YES, C), []), (0, call("count", area("bills", 0, 1, 0, 2)), []),
            (1, ("op", "=", A, cell("bills", 0, 1)), []), (1, ("op", "=", A, cell("bills", 0, 0)), [0]),
            (1, ("op", "=", A, cell("bills", 1, 2)), []), (0, ("op", "=", B, cell("bills", 1, 2)), [1]),
        ):
            rights = READ + (("bob", "bills", COLUMNS[hidden], "none"),)
            self.assertEqual(self.looks([down(*lines)], condition, rights=rights), places, condition)

    def test_orders_of_one_column(self):
        lines = ((n(2),), (n(10),), (None,), (n(-1),), (n(2),), (("text", "a"),), (n(2),))
        for order, places in (
            ((), [0, 1, 2, 3, 4, 5, 6]), (((COLUMNS[0], "up"),), [2, 3, 0, 4, 6, 1, 5]),
            (((COLUMNS[0], "down"),), [5, 1, 0, 4, 6, 3, 2]),
        ):
            self.assertEqual(self.looks([down(*lines)], YES, order), places)
            self.assertEqual(self.looks([down(*lines)], YES, order, (), "ann"), places)

    def test_all_kinds_of_values_in_their_order(self):
        dice = random.Random(23)
        for _ in range(20):
            places = sorted(dice.sample(range(len(VALUES_IN_ORDER)), 30))
            line = list(range(30))
            dice.shuffle(line)
            lines = [(VALUES_IN_ORDER[places[k]],) for k in line]
            ups = [line.index(k) for k in range(30)]
            self.assertEqual(self.looks([down(*lines)], YES, ((COLUMNS[0], "up"),)), ups)
            self.assertEqual(self.looks([down(*lines)], YES, ((COLUMNS[0], "down"),)), ups[::-1])

    def test_orders_of_several_columns(self):
        lines = (
            (n(1), n(2), ("text", "b")), (n(1), n(1), ("text", "a")), (n(0), n(2), ("text", "a")),
            (n(1), n(1), ("text", "c")), (n(1), n(2), ("text", "a")), (n(1), n(1), ("text", "a")),
        )
        a, b, c = COLUMNS[:3]
        for order, places in (
            (((a, "up"), (b, "up"), (c, "up")), [2, 1, 5, 3, 4, 0]), (((a, "up"), (b, "up")), [2, 1, 3, 5, 0, 4]),
            (((a, "down"), (b, "up"), (c, "down")), [3, 1, 5, 0, 4, 2]), (((b, "down"), (c, "up")), [2, 4, 0, 1, 5, 3]),
            (((c, "down"), (b, "down"), (a, "down")), [3, 0, 4, 2, 1, 5]), (((a, "down"),), [0, 1, 3, 4, 5, 2]),
        ):
            self.assertEqual(self.looks([down(*lines)], YES, order), places)

    def test_an_order_by_what_is_not_there_or_not_clear(self):
        lines = (
            (n(3), n(1), ("=", cell("bills", 0, 1))), (n(1), n(9), n(-1)), (n(2), n(5), n(4)), (n(2), n(4), None),
        )
        a, b, c, none = COLUMNS[0], COLUMNS[1], COLUMNS[2], COLUMNS[20]
        rights = READ + (("bob", "bills", b, "none"),)
        for order, places in (
            (((none, "up"),), [0, 1, 2, 3]), (((none, "down"), (a, "up")), [1, 2, 3, 0]), (((b, "up"),), [0, 1, 2, 3]),
            (((b, "down"), (a, "down")), [0, 2, 3, 1]), (((a, "up"), (b, "up")), [1, 2, 3, 0]),
            # The formula of the first row is not clear: it counts as nothing, as the empty cell of the last one.
            (((c, "up"),), [0, 3, 1, 2]), (((c, "down"),), [2, 1, 0, 3]), (((c, "down"), (a, "up")), [2, 1, 3, 0]),
        ):
            self.assertEqual(self.looks([down(*lines)], YES, order, rights), places)

    def test_rows_as_they_stand_in_the_sheet(self):
        rows = (ROWS[2], ROWS[0], ROWS[1])
        some_sheet = ("bills", rows, COLUMNS[:1], tuple((row, COLUMNS[0], n(1)) for row in ROWS[:3]))
        for order in ((), ((COLUMNS[0], "up"),), ((COLUMNS[0], "down"),)):
            self.assertEqual(self.looks([some_sheet], YES, order), [2, 0, 1])

    def test_sheets_that_are_not_there_or_have_no_rows_or_columns(self):
        for some_sheet in (sheet("bills", 0, 3, {}), sheet("bills", 0, 0, {})):
            self.assertEqual(self.looks([some_sheet], YES), [])
        self.assertEqual(self.looks([sheet("bills", 2, 2, {})], YES, name="none"), [])
        self.assertEqual(self.looks([sheet("bills", 2, 2, {})], YES, name="none", person="ann"), [])
        self.assertEqual(self.looks([sheet("bills", 2, 0, {})], YES), [0, 1])
        self.assertEqual(self.looks([sheet("bills", 2, 0, {})], YES, ((COLUMNS[0], "up"),), (), "eve"), [0, 1])
        self.assertEqual(self.looks([sheet("bills", 2, 0, {})], A), [])

    def test_persons_without_any_right(self):
        lines = ((n(1),), (n(2),))
        for rights in ((), (("bob", "none", None, "read"),), (("all", "bills", None, "none"),)):
            self.assertEqual(self.looks([down(*lines)], YES, ((COLUMNS[0], "down"),), rights), [0, 1])
            self.assertEqual(self.looks([down(*lines)], ("op", "=", A, number(1)), (), rights), [])

    def test_over_books_made_by_chance(self):
        dice = random.Random(230)
        found = 0
        for _ in range(150):
            some_book = chance.some_shared_book(dice)
            for person in ("ann", "bob", "eve"):
                other = chance.alike_book(dice, some_book, lambda one: model_shown.is_open(some_book, person, one))
                for name in [view[0] for view in some_book.views]:
                    rows = view_rows(some_book, person, name)
                    self.assertEqual(rows, model_shown.view_rows(some_book, person, name))
                    self.assertEqual(rows, view_rows(other, person, name))
                    found += len(rows)
        self.assertGreater(found, 300)

    def test_by_name(self):
        some_book = book(down((n(1),)), views=(("few", "bills", YES, ()),))
        self.assertEqual(view_rows(name="few", person="ann", book=some_book), ROWS[:1])

    def test_names_of_views(self):
        views = (("bills", "bills", YES, ()), ("few", "bills", A, ()))
        summaries = (("most", "few", COLUMNS[0], COLUMNS[0]),)
        some_book = book(down((("truth", 1),), (n(1),)), views=views, summaries=summaries)
        self.assertEqual(view_rows(some_book, "ann", "bills"), ROWS[:2])
        self.assertEqual(view_rows(some_book, "ann", "few"), ROWS[:1])
        for name in ["fe", "fewer", "Few", "most", "all", "", None, True, 0, ("few",), ["few"], views[1],
            at("bills", 0, 0)]:
            self.refuses(some_book, name, "ann", name)
        for name in [*ODD_THINGS, *NO_PERSONS]:
            self.refuses(some_book, name, "ann", name)
            self.refuses(some_book, name, "bob", name)

    def refuses(self, some_book, wrong, person, name):
        with self.assertRaises(InvalidName) as caught:
            view_rows(some_book, person, name)
        self.assertIs(caught.exception.value, wrong)

    def test_refuses_persons_ahead_of_names(self):
        some_book = book(down((n(1),)), views=(("few", "bills", YES, ()),))
        odd = [thing for thing in ODD_THINGS if thing not in ("ann", "value")]
        for person in ["all", OwnText("all"), *NO_PERSONS, *odd]:
            self.refuses(some_book, person, person, "few")
            self.refuses(some_book, person, person, "none")


if __name__ == "__main__":
    unittest.main()
