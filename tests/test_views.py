"""[13]: which views and summaries a book may have."""

import unittest

from ledgerloom.books import Book
from ledgerloom.errors import InvalidViews
from tests.helper import (
    COLUMNS, ODD_THINGS, ROWS, WRONG_EVERYWHERE, area, bush, call, cell, chain, found_at, is_plain, number, own, paths,
    put_at,
    sheet, text, truth,
)

HERE = ("here", COLUMNS[0])
AREA = area("bills", 0, 0, 1, 1)
ONE = number(1)
SHEETS = (sheet("bills", 2, 2, {}),)
CONDITIONS = [
    HERE, ("here", (999999, "all", 99, 99)), ("minus", HERE), ("op", "<", HERE, ONE), ("op", "=", text("a"), HERE),
    ("op", "&", HERE, HERE),
    ("if", HERE, ONE, ONE), ("if", ONE, HERE, ONE), ("if", ONE, ONE, HERE), ("if", HERE, HERE, HERE), call("sum", HERE),
    call("count", HERE, AREA, HERE), call("most", HERE, HERE, HERE, HERE, HERE, HERE),
    ("minus", call("least", ("minus", HERE))),
    ONE, text("a"), truth(1), cell("bills", 0, 0), cell("none", 9, 9), ("minus", ONE), ("op", "+", ONE, ONE),
    call("sum", AREA),
    ("if", truth(1), ONE, call("sum", area("none", 0, 0, 9, 9))),
]
NO_CONDITIONS = [
    None, (), 1, "1", "here", AREA, ("minus", AREA), ("op", "+", AREA, ONE), ("if", AREA, ONE, HERE),
    ("if", HERE, ONE, AREA),
    ("here",), ("here", COLUMNS[0], COLUMNS[0]), ("here", None), ("here", 0), ("here", "a"), ("here", HERE),
    ("here", [0, "", 0, 0]),
    ("here", (True, "", 0, 0)), ("here", (1, "", 0, 100)), ("here", (1, "", 0)), ["here", COLUMNS[0]],
    ("Here", COLUMNS[0]),
    ("here", "bills", COLUMNS[0]), ("here", "bills", ROWS[0], COLUMNS[0]), ("minus", ["here", COLUMNS[0]]),
    ("minus", HERE, HERE),
    ("op", HERE, ONE, ONE), ("op", ">", HERE, ONE), ("op", "+", HERE), ("if", HERE, HERE), call("sum"),
    call("here", HERE), call(HERE, HERE),
    call("sum", HERE, HERE, HERE, HERE, HERE, HERE, HERE), ("call", "sum", HERE), ("call", "sum", [HERE]),
    ("value", HERE),
    # "here" in place of an area, or of a part of one.
    call("sum", ("here", "bills", ROWS[0], COLUMNS[0], ROWS[1], COLUMNS[1])),
    call("sum", ("here", ROWS[0], COLUMNS[0])),
    call("sum", ("area", "bills", HERE, COLUMNS[0], ROWS[1], COLUMNS[1])), call("sum", ("area", HERE, HERE)),
    call("sum", ("area", "bills", ROWS[0], HERE, ROWS[1], HERE)), ("cell", "bills", ROWS[0], HERE),
    ("cell", HERE, ROWS[0], COLUMNS[0]),
    ("value", None), ("value", ("error", "kind")), ("number", 1, 1), ("truth", 1), ("=", ONE),
]
VIEWS = (
    ("all", "bills", ("op", "=", HERE, cell("bills", 0, 0)), ((COLUMNS[0], "up"), (COLUMNS[1], "down"))),
    ("few", "none", call("count", AREA, ("minus", HERE)), ()),
)
SUMMARIES = (("all", "few", COLUMNS[0], COLUMNS[1]), ("few", "none", COLUMNS[9], COLUMNS[9]))


def with_here(tree):
    """The same tree with "here" in place of each value."""
    if tree[0] == "value":
        return HERE
    return tuple(with_here(part) if isinstance(part, tuple) else part for part in tree)


class ViewsTest(unittest.TestCase):
    def let(self, views):
        for same in (views, own(views)):
            found = Book("ann", SHEETS, same, (), ()).views
            self.assertEqual(found, views)
            self.assertTrue(is_plain(found))

    def barred(self, views):
        with self.assertRaises(InvalidViews) as caught:
            Book("ann", SHEETS, views, (), ())
        self.assertIs(caught.exception.value, views)

    def lets_condition(self, condition):
        self.let((("few", "bills", condition, ()),))

    def bars_condition(self, condition):
        self.barred((("few", "bills", condition, ()),))

    def lets_order(self, order):
        self.let((("few", "bills", ONE, order),))

    def bars_order(self, order):
        self.barred((("few", "bills", ONE, order),))

    def test_some_views(self):
        self.let(())
        self.let(VIEWS)
        self.let(VIEWS[1:])

    def test_conditions(self):
        for condition in CONDITIONS:
            self.lets_condition(condition)
            self.lets_condition(("op", "=", condition, HERE))
            self.lets_condition(call("sum", condition, AREA, condition))

    def test_what_is_no_condition(self):
        for condition in [*NO_CONDITIONS, *ODD_THINGS]:
            self.bars_condition(condition)
            self.bars_condition(("op", "=", HERE, condition))
            self.bars_condition(("minus", condition))
            if condition != AREA:
                self.bars_condition(call("sum", HERE, condition))

    def test_number_of_trees(self):
        for many in range(1, 60):
            for tree in (bush(many), with_here(bush(many))):
                if many <= 40:
                    self.lets_condition(tree)
                else:
                    self.bars_condition(tree)
        six = call("sum", HERE, AREA, HERE, AREA, HERE, AREA)
        self.lets_condition(call("sum", six, six, six, six, six, call("sum", HERE, HERE, HERE)))
        self.bars_condition(call("sum", six, six, six, six, six, call("sum", HERE, HERE, HERE, HERE)))

    def test_depth(self):
        for deep in range(1, 20):
            for tree in (chain(deep), with_here(chain(deep))):
                if deep <= 12:
                    self.lets_condition(tree)
                else:
                    self.bars_condition(tree)

    def test_number_of_views(self):
        names = ["a", "b", "c", "d", "e", "f", "g"]
        for many in range(7):
            self.let(tuple((name, "bills", HERE, ()) for name in names[:many]))
        self.barred(tuple((name, "bills", HERE, ()) for name in names))

    def test_names(self):
        for name in ("a", "abcdefgh", "all", "bills", "if"):
            self.let(((name, "bills", HERE, ()),))
            self.let((("few", name, HERE, ()),))
        for name in ["", "abcdefghi", "A", "a1", "a b", "\u00e4", 1, True, None, ("a",), ["a"], *ODD_THINGS]:
            if name not in ("ann", "value"):
                self.barred(((name, "bills", HERE, ()),))
                self.barred((("few", name, HERE, ()),))

    def test_order_of_names(self):
        first, second, third = [(name, "bills", HERE, ()) for name in ("a", "ab", "b")]
        self.let((first, second, third))
        for views in (
            (second, first), (first, third, second), (first, first), (first, second, second),
            (first, ("a", "notes", ONE, ())),
        ):
            self.barred(views)

    def test_orders(self):
        pairs = [(column, word) for column, word in zip(COLUMNS, ("up", "down", "up", "down"))]
        for many in range(4):
            self.lets_order(tuple(pairs[:many]))
            self.lets_order(tuple(pairs[:many][::-1]))
        self.bars_order(tuple(pairs))
        self.lets_order(((COLUMNS[5], "up"), (COLUMNS[2], "up"), (COLUMNS[9], "up")))

    def test_columns_twice_in_orders(self):
        for order in (
            ((COLUMNS[0], "up"), (COLUMNS[0], "up")), ((COLUMNS[0], "up"), (COLUMNS[0], "down")),
            ((COLUMNS[0], "up"), (COLUMNS[1], "up"), (COLUMNS[0], "down")),
            ((COLUMNS[1], "up"), (COLUMNS[0], "up"), (COLUMNS[0], "down")),
        ):
            self.bars_order(order)

    def test_what_is_no_order(self):
        for word in ["", "Up", "upward", "left", None, True, 1, ("up",), ["up"], *ODD_THINGS]:
            self.bars_order(((COLUMNS[0], word),))
        for column in [None, "a", 0, (True, "", 0, 0), (1, "", 0, 100), [2, "", 0, 0], HERE, *ODD_THINGS]:
            self.bars_order(((column, "up"),))
            self.bars_order(((COLUMNS[0], "up"), (column, "down")))
        for order in [
            None, (COLUMNS[0], "up"), [(COLUMNS[0], "up")], ([COLUMNS[0], "up"],), ((COLUMNS[0],),),
            ((COLUMNS[0], "up", "down"),),
            (("up", COLUMNS[0]),), (COLUMNS[0],), ((),), "up", ("up",), ("ab",),
        ]:
            self.bars_order(order)
        for thing in ODD_THINGS:
            if thing != ():
                self.bars_order(thing)
            self.bars_order((thing,))

    def test_what_they_name_need_not_be_there(self):
        for sheets in (SHEETS, (sheet("notes", 0, 0, {}),)):
            views = (("few", "none", ("op", "&", cell("none", 5, 5), ("here", COLUMNS[9])), ((COLUMNS[8], "up"),)),)
            summaries = (("few", "none", COLUMNS[7], COLUMNS[9]),)
            book = Book("ann", sheets, views, summaries, ())
            self.assertEqual((book.views, book.summaries), (views, summaries))

    def test_what_is_no_views_at_all(self):
        for thing in [*ODD_THINGS, None, VIEWS[0], list(VIEWS), "few", ("few",)]:
            if thing != ():
                self.barred(thing)
            if thing != VIEWS[0]:
                self.barred((thing,))
            self.barred(VIEWS + (thing,))
        for view in VIEWS:
            for many in range(4):
                self.barred((view[:many],))
            self.barred((view + ((),),))
        self.barred(SUMMARIES)

    def test_odd_things_in_each_place(self):
        for path in paths(VIEWS):
            for thing in [*WRONG_EVERYWHERE, None]:
                self.barred(put_at(VIEWS, path, thing))
            part = found_at(VIEWS, path)
            if isinstance(part, tuple):
                self.barred(put_at(VIEWS, path, list(part)))
                for thing in WRONG_EVERYWHERE:
                    self.barred(put_at(VIEWS, path, part + (thing,)))

    def test_here_is_in_no_content(self):
        for condition in CONDITIONS[:14]:
            with self.assertRaises(ValueError):
                Book("ann", (("bills", ROWS[:1], COLUMNS[:1], ((ROWS[0], COLUMNS[0], ("=", condition)),)),), (), (), ())


class SummariesTest(unittest.TestCase):
    def let(self, summaries):
        for same in (summaries, own(summaries)):
            found = Book("ann", SHEETS, VIEWS, same, ()).summaries
            self.assertEqual(found, summaries)
            self.assertTrue(is_plain(found))

    def barred(self, summaries):
        with self.assertRaises(InvalidViews) as caught:
            Book("ann", SHEETS, VIEWS, summaries, ())
        self.assertIs(caught.exception.value, summaries)

    def test_some_summaries(self):
        self.let(())
        self.let(SUMMARIES)
        self.let((("all", "all", COLUMNS[0], COLUMNS[0]),))
        self.let((("all", "all", (0, "", 0, 0), (999999, "all", 99, 99)),))

    def test_number_of_summaries(self):
        names = ["a", "b", "c", "d", "e", "f", "g"]
        for many in range(7):
            self.let(tuple((name, "few", COLUMNS[0], COLUMNS[1]) for name in names[:many]))
        self.barred(tuple((name, "few", COLUMNS[0], COLUMNS[1]) for name in names))

    def test_names(self):
        for name in ["", "abcdefghi", "A", "a1", "a b", "\u00e4", 1, True, None, ("a",), ["a"], *ODD_THINGS]:
            if name not in ("ann", "value"):
                self.barred(((name, "few", COLUMNS[0], COLUMNS[1]),))
                self.barred((("all", name, COLUMNS[0], COLUMNS[1]),))

    def test_order_of_names(self):
        first, second, third = [(name, "few", COLUMNS[0], COLUMNS[1]) for name in ("a", "ab", "b")]
        self.let((first, second, third))
        for summaries in (
            (second, first), (first, third, second), (first, first), (first, ("a", "b", COLUMNS[2], COLUMNS[3]))
        ):
            self.barred(summaries)

    def test_columns(self):
        for column in [
            None, "a", 0, True, (True, "", 0, 0), (1, "", 0, 100), (1000000, "", 0, 0), [2, "", 0, 0], (2, "", 0), HERE,
            *ODD_THINGS,
        ]:
            self.barred((("all", "few", column, COLUMNS[0]),))
            self.barred((("all", "few", COLUMNS[0], column),))

    def test_what_is_no_summaries_at_all(self):
        for thing in [*ODD_THINGS, None, SUMMARIES[0], list(SUMMARIES), "few", ("few",)]:
            if thing != ():
                self.barred(thing)
            if thing != SUMMARIES[0]:
                self.barred((thing,))
            self.barred(SUMMARIES + (thing,))
        for summary in SUMMARIES:
            for many in range(4):
                self.barred((summary[:many],))
            self.barred((summary + (COLUMNS[0],),))
        self.barred(VIEWS)

    def test_odd_things_in_each_place(self):
        for path in paths(SUMMARIES):
            for thing in [*WRONG_EVERYWHERE, None]:
                self.barred(put_at(SUMMARIES, path, thing))
            part = found_at(SUMMARIES, path)
            if isinstance(part, tuple):
                self.barred(put_at(SUMMARIES, path, list(part)))
                for thing in WRONG_EVERYWHERE:
                    self.barred(put_at(SUMMARIES, path, part + (thing,)))


if __name__ == "__main__":
    unittest.main()
