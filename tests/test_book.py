"""[2], [14]: books: their owner and their errors in order, what they keep, and when they are equal."""

import unittest

from ledgerloom.books import Book
from ledgerloom.errors import InvalidName, InvalidRights, InvalidSheets, InvalidViews
from tests.helper import (
    COLUMNS, Desk, ODD_THINGS, ROWS, OwnText, OwnTuple, cell, is_plain, number, own, sheet,
)

PARTS = ("owner", "sheets", "views", "summaries", "rights")
GOOD = (
    "ann",
    (sheet("bills", 2, 2, {(0, 0): ("number", 1, 2), (1, 1): ("=", cell("bills", 0, 0))}), sheet("notes", 1, 1, {})),
    (("few", "bills", ("op", "=", ("here", COLUMNS[0]), number(1, 2)), ((COLUMNS[1], "up"),)),),
    (("each", "few", COLUMNS[0], COLUMNS[1]),),
    (("all", "bills", None, "read"), ("bob", "notes", COLUMNS[0], "write")),
)
OTHER = (
    "bob",
    (GOOD[1][0],),
    (),
    (("each", "few", COLUMNS[1], COLUMNS[1]),),
    GOOD[4][::-1],
)
# For each part an error and what is none; the views and the summaries are refused by errors of one kind.
WRONG = (
    (InvalidName, "all"), (InvalidSheets, ()), (InvalidViews, None),
    (InvalidViews, [("each", "few", COLUMNS[0], COLUMNS[1])]),
    (InvalidRights, (("all", "bills", None, "own"),)),
)


class BookTest(unittest.TestCase):
    def test_attributes(self):
        for parts in (GOOD, OTHER):
            some_book = Book(*parts)
            self.assertEqual(tuple(getattr(some_book, part) for part in PARTS), parts)

    def test_by_name(self):
        some_book = Book(rights=GOOD[4], summaries=GOOD[3], views=GOOD[2], sheets=GOOD[1], owner=GOOD[0])
        self.assertEqual(some_book, Book(*GOOD))

    def test_attributes_are_plain(self):
        for some_book in (Book(*own(GOOD)), Book(OwnText("ann"), *[OwnTuple(part) for part in GOOD[1:]])):
            self.assertEqual(some_book, Book(*GOOD))
            for part, value in zip(PARTS, GOOD):
                self.assertTrue(is_plain(getattr(some_book, part)))
                self.assertEqual(getattr(some_book, part), value)

    def test_owners(self):
        for owner in ("a", "bob", "abcdefgh", "alle", "al", "zzzzzzzz"):
            self.assertEqual(Book(owner, *GOOD[1:]).owner, owner)
        for owner in [
            "all", OwnText("all"), "", "abcdefghi", "Ann", "an n", "ann1", "\u00e4nn", " ann", "ann\n", 1, 0, True,
            False, None, ("ann",),
            ["ann"], b"ann", *[thing for thing in ODD_THINGS if thing not in ("ann", "value")],
        ]:
            with self.assertRaises(InvalidName) as caught:
                Book(owner, *GOOD[1:])
            self.assertIs(caught.exception.value, owner)

    def test_errors_in_order(self):
        for which in range(32):
            wrong = [at for at in range(5) if which >> at & 1]
            parts = [WRONG[at][1] if at in wrong else GOOD[at] for at in range(5)]
            if not wrong:
                Book(*parts)
                continue
            with self.assertRaises(WRONG[wrong[0]][0]) as caught:
                Book(*parts)
            self.assertIs(type(caught.exception), WRONG[wrong[0]][0])
            self.assertIs(caught.exception.value, parts[wrong[0]])

    def test_each_part_in_place_of_another(self):
        for at in range(5):
            for other in range(5):
                if GOOD[at] != GOOD[other]:
                    parts = list(GOOD)
                    parts[at] = GOOD[other]
                    with self.assertRaises(WRONG[at][0]) as caught:
                        Book(*parts)
                    self.assertIs(caught.exception.value, GOOD[other])

    def test_equal_by_its_five_parts(self):
        self.assertTrue(Book(*GOOD) == Book(*GOOD))
        self.assertFalse(Book(*GOOD) != Book(*GOOD))
        self.assertTrue(Book(*GOOD) == Book(*own(GOOD)))
        for which in range(1, 32):
            parts = [OTHER[at] if which >> at & 1 else GOOD[at] for at in range(5)]
            self.assertFalse(Book(*GOOD) == Book(*parts))
            self.assertTrue(Book(*GOOD) != Book(*parts))
            self.assertTrue(Book(*parts) == Book(*parts))

    def test_small_differences(self):
        def with_content(content):
            return Book("ann", (sheet("bills", 1, 1, {(0, 0): content}),), (), (), ())
        contents = [
            ("number", 1, 1), ("number", -1, 1), ("truth", 1), ("truth", 0), ("text", "1"), ("text", "yes"),
            ("error", "gone"),
            ("=", number(1)), ("=", cell("bills", 0, 0)), ("=", cell("bills", 0, 1)),
        ]
        for one in contents:
            for other in contents:
                self.assertEqual(with_content(one) == with_content(other), one == other)
        rows = [
            ("bills", ROWS[:2], (), ()), ("bills", ROWS[1::-1], (), ()), ("bills", ROWS[:1], (), ()),
            ("bills", (), ROWS[:2], ()),
        ]
        for one in rows:
            for other in rows:
                self.assertEqual(Book("ann", (one,), (), (), ()) == Book("ann", (other,), (), (), ()), one == other)

    def test_equal_to_nothing_else(self):
        class Like:
            def __init__(self):
                self.owner, self.sheets, self.views, self.summaries, self.rights = GOOD

        some_book = Book(*GOOD)
        for other in [*ODD_THINGS, None, GOOD, list(GOOD), GOOD[1], Like(), Desk(GOOD[1]), Book]:
            self.assertFalse(some_book == other)
            self.assertFalse(other == some_book)
            self.assertTrue(some_book != other)

    def test_a_bool_is_never_taken_for_an_integer(self):
        for wrong in (
            ("bills", ((True, "", 0, 0),), (), ()),
            ("bills", ROWS[:1], COLUMNS[:1], ((ROWS[0], COLUMNS[0], ("truth", True)),)),
            ("bills", ROWS[:1], COLUMNS[:1], ((ROWS[0], COLUMNS[0], ("number", True, 1)),)),
            ("bills", ROWS[:1], COLUMNS[:1], ((ROWS[0], COLUMNS[0], ("=", ("value", ("truth", False)))),)),
            ("bills", ROWS[:1], COLUMNS[:1], ((ROWS[0], COLUMNS[0], True),)),
        ):
            with self.assertRaises(InvalidSheets):
                Book("ann", (wrong,), (), (), ())

    def test_not_iterable(self):
        some_book = Book(*GOOD)
        for use in (iter, list, tuple, len, lambda thing: 1 in thing, lambda thing: thing[0], lambda thing: [*thing]):
            with self.assertRaises(TypeError):
                use(some_book)

    def test_arguments_are_not_changed(self):
        lists = [["bills", [], [], []]]
        with self.assertRaises(InvalidSheets):
            Book("ann", lists, (), (), ())
        self.assertEqual(lists, [["bills", [], [], []]])
        parts = tuple(GOOD)
        Book(*parts)
        self.assertEqual(parts, GOOD)


if __name__ == "__main__":
    unittest.main()
