"""[2], [4]: books at the bounds are reckoned at once, each cell once, whatever leads to what."""

import time
import unittest

from ledgerloom.meaning import all_values, needs, needs_in_all, on_rings, value_of
from ledgerloom.pages import page, read_page
from ledgerloom.papers import paper_for, paper_holds, paper_of
from ledgerloom.reckoning import Reckoner, changed, reached
from ledgerloom.seeing import seen, summary_of, view_rows
from tests.helper import COLUMNS, ROWS, area, at, book, call, cell, number, sheet, text

LONG = 20
RING = ("error", "ring")


def place_of(k, columns):
    """The place of the row and the column of the cell of this number."""
    return divmod(k, columns)


def row_book(rows, columns, first, tree_of):
    """A book of one sheet, whose first cell holds a value, each other one the tree that is told of the one ahead."""
    contents = {(0, 0): first}
    for k in range(1, rows * columns):
        contents[place_of(k, columns)] = ("=", tree_of(cell("bills", *place_of(k - 1, columns))))
    return book(sheet("bills", rows, columns, contents))


def twice(ahead):
    """A tree that names the cell ahead four times."""
    return ("op", "+", ("op", "-", ahead, ahead), ("if", ("op", "=", ahead, ahead), number(7), ahead))


class GreatBooksTest(unittest.TestCase):
    def setUp(self):
        self.start = time.monotonic()

    def tearDown(self):
        # Very many times what it takes; ways that fork at each of a hundred cells would take for ever.
        self.assertLess(time.monotonic() - self.start, LONG)

    def test_a_chain(self):
        for rows, columns in ((25, 4), (10, 10), (9, 11), (20, 5)):
            some_book = row_book(rows, columns, ("number", 1, 1), lambda ahead: ("op", "+", ahead, number(1)))
            cells = [at("bills", *place_of(k, columns)) for k in range(rows * columns)]
            self.assertEqual(all_values(some_book), tuple((some, ("number", k + 1, 1)) for k, some in enumerate(cells)))
            self.assertEqual(value_of(some_book, cells[-1]), ("number", rows * columns, 1))
            self.assertEqual(needs_in_all(some_book, cells[-1]), tuple(cells[:-1]))
            self.assertEqual(on_rings(some_book), ())
            self.assertEqual(reached(some_book, (cells[0],)), tuple(cells))

    def test_a_chain_that_names_the_one_ahead_several_times(self):
        some_book = row_book(10, 10, ("number", 7, 1), twice)
        for k in range(100):
            some_cell = at("bills", *place_of(k, 10))
            self.assertEqual(value_of(some_book, some_cell), ("number", 7, 1))
            self.assertEqual(needs(some_book, some_cell), (at("bills", *place_of(k - 1, 10)),) if k else ())
        other = row_book(10, 10, ("text", "a"), twice)
        reckoner = Reckoner(some_book)
        self.assertEqual(len(reckoner.turn(other)), 100)
        self.assertEqual(reckoner.value(at("bills", 9, 9)), ("error", "kind"))

    def test_a_ring_of_a_hundred(self):
        contents = {place_of(k, 10): ("=", twice(cell("bills", *place_of((k + 1) % 100, 10)))) for k in range(100)}
        some_book = book(sheet("bills", 10, 10, contents))
        self.assertEqual(len(on_rings(some_book)), 100)
        self.assertEqual({value for _, value in all_values(some_book)}, {RING})
        self.assertEqual(len(needs_in_all(some_book, at("bills", 5, 5))), 100)
        broken = book(sheet("bills", 10, 10, {**contents, (9, 9): ("number", 7, 1)}))
        self.assertEqual(on_rings(broken), ())
        self.assertEqual({value for _, value in all_values(broken)}, {("number", 7, 1)})
        reckoner = Reckoner(some_book)
        self.assertEqual(len(reckoner.turn(broken)), 100)
        self.assertEqual(reckoner.all_values(), all_values(broken))

    def test_each_cell_names_all_those_ahead(self):
        contents = {(0, column): ("number", 1, 10 ** 15 - 1 - column) for column in range(10)}
        for row in range(1, 10):
            ahead = area("bills", 0, 0, row - 1, 9)
            for column in range(10):
                six = call("least", *[ahead] * 6)
                contents[row, column] = (
                    "=", call("sum", six, call("count", ahead), call("most", *[ahead] * 6), ("minus", six))
                )
        some_book = book(sheet("bills", 10, 10, contents))
        values = dict(all_values(some_book))
        self.assertEqual(len(values), 100)
        self.assertEqual(value_of(some_book, at("bills", 9, 9)), values[at("bills", 9, 9)])
        self.assertEqual(len(needs_in_all(some_book, at("bills", 9, 0))), 90)
        self.assertEqual(on_rings(some_book), ())

    def test_each_cell_names_all_cells_as_often_as_may_be(self):
        everything = area("bills", 0, 0, 9, 9)
        six = call("sum", *[everything] * 6)
        tree = call("sum", six, six, six, six, six, call("sum", *[everything] * 3))
        some_book = book(sheet("bills", 10, 10, {place_of(k, 10): ("=", tree) for k in range(100)}))
        self.assertEqual(len(on_rings(some_book)), 100)
        self.assertEqual({value for _, value in all_values(some_book)}, {RING})
        self.assertEqual(changed(some_book, some_book), ())
        self.assertEqual(Reckoner(some_book).turn(some_book), ())

    def test_sums_of_many_divisors(self):
        half = area("bills", 0, 0, 4, 9)
        six = call("sum", *[half] * 6)
        tree = ("op", "*", call("sum", six, six, six, six, six, half), number(0))
        contents = {place_of(k, 10): ("number", 1, 10 ** 15 - 1 - 2 * k) if k < 50 else ("=", tree) for k in range(100)}
        some_book = book(sheet("bills", 10, 10, contents))
        self.assertEqual(
            {value for some, value in all_values(some_book) if some[1] >= at("bills", 5, 0)[1]}, {("error", "size")}
        )
        # Only the whole sum counts: all the parts but one come back, taken off.
        for k in range(25):
            contents[place_of(k + 25, 10)] = ("number", -1, 10 ** 15 - 1 - 2 * k)
        contents[0, 0] = ("number", 5, 10 ** 15 - 1)
        contents[9, 9] = ("=", call("sum", half))
        some_book = book(sheet("bills", 10, 10, contents))
        self.assertEqual(value_of(some_book, at("bills", 9, 9)), ("number", 4, 10 ** 15 - 1))

    def test_texts_and_many_turns(self):
        some_book = row_book(25, 4, ("text", "a"), lambda ahead: ("op", "&", ahead, text("")))
        other = row_book(25, 4, ("text", "b"), lambda ahead: ("op", "&", ahead, text("")))
        reckoner = Reckoner(some_book)
        for k in range(30):
            self.assertEqual(len(reckoner.turn(some_book if k % 2 else other)), 100)
            self.assertEqual(reckoner.value(at("bills", 24, 3)), ("text", "a" if k % 2 else "b"))

    def shared(self, contents, condition):
        """A book of these contents with a view and a summary, of which bob may read all."""
        order = tuple((COLUMNS[k], "down") for k in range(3))
        return book(
            sheet("bills", 25, 4, contents), views=(("few", "bills", condition, order),),
            summaries=(("most", "few", COLUMNS[0], COLUMNS[3]),), rights=(("bob", "bills", None, "read"),) * 20,
        )

    def test_a_chain_is_seen_viewed_and_paged_at_once(self):
        contents = {(0, 0): ("number", 1, 1)}
        for k in range(1, 100):
            contents[place_of(k, 4)] = ("=", ("op", "+", twice(cell("bills", *place_of(k - 1, 4))), number(1)))
        six = call("sum", *[area("bills", 0, 0, 24, 3)] * 6)
        condition = ("op", "<", call("count", six, six, six, six, ("here", COLUMNS[0])), ("here", COLUMNS[1]))
        some_book = self.shared(contents, condition)
        last = at("bills", 24, 3)
        self.assertEqual(seen(some_book, "bob", last)[2], ("number", 8, 1))
        self.assertEqual(view_rows(some_book, "bob", "few"), ROWS[1:25] + ROWS[:1])
        self.assertEqual(view_rows(some_book, "eve", "few"), ())
        self.assertEqual(summary_of(some_book, "bob", "most")[0], (("number", 1, 1), 1, ("number", 8, 1)))
        told = page(some_book, "bob", "bills")
        self.assertEqual(read_page(told)[0], tuple(("number", p, 1) for p in (1, 8, 8, 8)))
        self.assertEqual(page(some_book, "eve", "bills"), "\n".join(["?;?;?;?"] * 25))
        paper = paper_for(some_book, "bob", last)
        self.assertEqual(len(paper), 100)
        self.assertIs(paper_holds(some_book, last, paper), True)
        self.assertIs(paper_holds(some_book, last, paper * 300), False)
        self.assertEqual([len(paper_of(some_book, at("bills", *place_of(k, 4)))) for k in (0, 50, 98)], [1, 51, 99])

    def test_each_cell_names_all_cells_and_is_shown(self):
        six = call("sum", *[area("bills", 0, 0, 24, 3)] * 6)
        tree = call("sum", six, six, six, six, six, call("sum", *[area("bills", 0, 0, 24, 3)] * 3))
        some_book = self.shared({place_of(k, 4): ("=", tree) for k in range(100)}, tree)
        self.assertEqual(seen(some_book, "bob", at("bills", 3, 3))[2], RING)
        self.assertEqual(view_rows(some_book, "bob", "few"), ())
        self.assertEqual(summary_of(some_book, "bob", "most"), ())
        self.assertEqual(page(some_book, "bob", "bills"), "\n".join(["#ring;#ring;#ring;#ring"] * 25))
        self.assertEqual(len(paper_for(some_book, "bob", at("bills", 3, 3))), 100)


if __name__ == "__main__":
    unittest.main()
