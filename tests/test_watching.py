"""[31]: what people see, which cells they watch, and what is news to them."""

import unittest

from ledgerloom.errors import InvalidCell, InvalidName
from ledgerloom.office import Office
from ledgerloom.seeing import seen
from tests.helper import COLUMNS, ODD_THINGS, ROWS, at, book, cell, is_plain, number, own, sheet
from tests.test_meaning import NO_CELLS
from tests.test_office import NOBODY, setting
from tests.test_steps import n

RIGHTS = (("all", "bills", None, "write"), ("eve", "bills", COLUMNS[1], "none"))
CONTENTS = {(0, 0): n(1), (0, 1): ("=", ("op", "+", cell("bills", 0, 0), number(1))),
    (1, 0): ("=", cell("bills", 0, 1))}
BOOK = book(sheet("bills", 2, 2, CONTENTS), rights=RIGHTS)
PEOPLE = ("ann", "bob", "eve")
A1, B1, A2, B2 = [at("bills", row, column) for row in (0, 1) for column in (0, 1)]
OTHER = at("notes", 0, 0)


class WatchingTest(unittest.TestCase):
    def setUp(self):
        self.office = Office(BOOK, PEOPLE)

    def is_news(self, person, *told):
        """Just this is news to the person; watched tells of it what see tells."""
        found = self.office.news(own(person))
        self.assertEqual(found, told)
        self.assertTrue(is_plain(found))
        watched = self.office.watched(person)
        self.assertTrue(is_plain(watched))
        self.assertLessEqual(set(found), set(watched))
        for some_cell, what in watched:
            if what is None:
                with self.assertRaises(InvalidCell):
                    self.office.see(person, some_cell)
            else:
                self.assertEqual(what, self.office.see(person, some_cell))
        self.assertEqual(self.office.news(person), ())

    def test_see(self):
        for person, what in (
            ("ann", ("clear", "= bills!a1 + 1", n(2))), ("bob", ("clear", "= bills!a1 + 1", n(2))), ("eve", ("hidden",))
        ):
            found = self.office.see(own(person), own(B1))
            self.assertEqual(found, what)
            self.assertTrue(is_plain(found))
        self.assertEqual(self.office.see("eve", A2), ("veiled", "= bills!b1"))
        self.office.do("ann", setting(5))
        self.assertEqual(self.office.see("ann", B1), ("clear", "= bills!a1 + 1", n(6)))
        self.assertEqual(self.office.see("bob", B1), ("clear", "= bills!a1 + 1", n(2)))
        for person in PEOPLE:
            for some_cell in (A1, B1, A2, B2):
                self.assertEqual(self.office.see(person, some_cell),
                    seen(self.office.book_of(person), person, some_cell))

    def test_see_refuses(self):
        for wrong in NO_CELLS:
            if wrong != OTHER:
                for person in PEOPLE:
                    with self.assertRaises(InvalidCell) as caught:
                        self.office.see(person, wrong)
                    self.assertIs(caught.exception.value, wrong)

    def test_watched_is_ascending(self):
        for some_cell in (B2, A1, OTHER, B1, A1):
            self.assertIsNone(self.office.watch("ann", own(some_cell)))
        self.assertEqual(self.office.watched("ann"), (
            (A1, ("clear", "1", n(1))), (B1, ("clear", "= bills!a1 + 1", n(2))), (B2, ("clear", "", None)),
            (OTHER, None),
        ))
        self.assertTrue(is_plain(self.office.watched("ann")))
        self.assertEqual(self.office.watched("bob"), ())
        self.assertEqual(self.office.news("bob"), ())

    def test_news_at_first_and_twice_at_once(self):
        for some_cell in (A2, B1, OTHER):
            self.office.watch("eve", some_cell)
        self.is_news("eve", (B1, ("hidden",)), (A2, ("veiled", "= bills!b1")), (OTHER, None))
        self.office.watch("eve", A1)
        self.is_news("eve", (A1, ("clear", "1", n(1))))

    def test_news_behind_deeds(self):
        for person in PEOPLE:
            for some_cell in (A1, B1, A2):
                self.office.watch(person, some_cell)
            self.office.news(person)
        self.office.do("bob", setting(5))
        self.is_news("ann")
        self.is_news(
            "bob", (A1, ("clear", "5", n(5))), (B1, ("clear", "= bills!a1 + 1", n(6))),
            (A2, ("clear", "= bills!b1", n(6)))
        )
        self.office.send("bob", "eve")
        self.is_news("eve", (A1, ("clear", "5", n(5))))
        self.office.do("bob", ("set", *B1, n(6)))
        self.is_news("bob", (B1, ("clear", "6", n(6))))
        self.office.send("bob", "eve")
        self.is_news("eve")
        self.office.undo("bob", (1, "bob", 0))
        self.is_news("bob", (A1, ("clear", "1", n(1))))
        self.office.redo("bob", (1, "bob", 0))
        self.office.undo("bob", (1, "bob", 0))
        self.is_news("bob")

    def test_changes_that_go_back_are_no_news(self):
        self.office.watch("ann", A1)
        self.office.news("ann")
        self.office.do("ann", setting(9))
        self.office.do("ann", setting(1))
        self.is_news("ann")

    def test_cells_that_come_and_go(self):
        row = (1, "ann", 0, 0)
        fresh = ("bills", row, COLUMNS[0])
        self.office.watch("ann", fresh)
        self.is_news("ann", (fresh, None))
        self.office.do("ann", ("rows", "bills", ROWS[1], 1))
        self.is_news("ann", (fresh, ("clear", "", None)))
        self.office.do("ann", ("unrow", "bills", row))
        self.is_news("ann", (fresh, None))
        self.office.undo("ann", (2, "ann", 0))
        self.is_news("ann", (fresh, ("clear", "", None)))
        self.office.do("ann", ("sheet", "notes"))
        self.office.do("ann", ("unsheet", "bills"))
        self.is_news("ann", (fresh, None))

    def test_rights_that_come_and_go(self):
        self.office.watch("eve", B1)
        self.office.watch("eve", A2)
        self.is_news("eve", (B1, ("hidden",)), (A2, ("veiled", "= bills!b1")))
        self.office.do("ann", ("rule", ("eve", "bills", None, "read")))
        self.is_news("eve")
        self.office.send("ann", "eve")
        self.is_news("eve", (B1, ("clear", "= bills!a1 + 1", n(2))), (A2, ("clear", "= bills!b1", n(2))))
        self.office.undo("ann", (1, "ann", 0))
        self.office.send("ann", "eve")
        self.is_news("eve", (B1, ("hidden",)), (A2, ("veiled", "= bills!b1")))

    def test_where_things_stand_is_news(self):
        self.office.watch("ann", B1)
        self.office.news("ann")
        self.office.do("ann", ("rows", "bills", None, 2))
        self.is_news("ann", (B1, ("clear", "= bills!a3 + 1", n(2))))

    def test_watched_again_all_is_told_again(self):
        for some_cell in (A1, B1, OTHER):
            self.office.watch("ann", some_cell)
        self.office.news("ann")
        self.office.watch("ann", A1)
        self.is_news("ann", (A1, ("clear", "1", n(1))))
        self.office.watch("ann", OTHER)
        self.office.watch("ann", OTHER)
        self.is_news("ann", (OTHER, None))
        self.office.watch("ann", A1)
        self.office.do("ann", setting(4))
        self.office.do("ann", setting(1))
        self.is_news("ann", (A1, ("clear", "1", n(1))))

    def test_what_is_watched_and_told_stays_behind_a_crash(self):
        self.office.watch("bob", A1)
        self.office.watch("bob", B2)
        self.office.do("bob", setting(5))
        self.office.news("bob")
        self.assertEqual(self.office.crash("bob", len(self.office.store_of("bob"))), 1)
        self.is_news("bob")
        self.assertEqual(self.office.crash("bob", 5), 0)
        self.is_news("bob", (A1, ("clear", "1", n(1))))
        self.assertEqual(self.office.watched("bob"), ((A1, ("clear", "1", n(1))), (B2, ("clear", "", None))))

    def test_calls_of_others_are_no_news(self):
        for person in PEOPLE:
            self.office.watch(person, A1)
        self.office.news("ann")
        self.office.news("bob")
        self.office.watch("ann", B1)
        self.office.do("bob", setting(7))
        self.assertEqual(self.office.news("eve"), ((A1, ("clear", "1", n(1))),))
        self.assertEqual(self.office.news("ann"), ((B1, ("clear", "= bills!a1 + 1", n(2))),))
        self.office.send("bob", "ann")
        self.office.crash("bob", 0)
        self.office.tidy("ann")
        self.assertEqual(self.office.news("bob"), ())
        self.assertEqual(self.office.news("ann"), ((A1, ("clear", "7", n(7))), (B1, ("clear", "= bills!a1 + 1", n(8)))))

    def test_later_news_over_earlier_are_what_is_watched(self):
        told = {}
        for deed in (setting(3), ("unrow", "bills", ROWS[1]), ("set", *B1, ("text", "a")),
            ("uncolumn", "bills", COLUMNS[0])):
            for some_cell in (A1, B1, A2, OTHER)[:1 + len(told)]:
                if some_cell not in told:
                    self.office.watch("ann", some_cell)
            self.office.do("ann", deed)
            told.update(self.office.news("ann"))
            self.assertEqual(tuple(sorted(told.items())), self.office.watched("ann"))

    def test_a_refused_call_changes_nothing(self):
        self.office.watch("ann", A1)
        for wrong in [None, (), A1[:2], (*A1, 0), list(A1), ("Bills", *A1[1:]), ("bills", 1, 1),
            ("bills", ROWS[0], None),
                      ("", *A1[1:]), ("bills", (True, "", 0, 0), COLUMNS[0]), ("bills", list(ROWS[0]), COLUMNS[0]),
                      "a1",
                      ("cell", *A1), ("bills", ROWS[0], (1, "", 0, 100)), *ODD_THINGS]:
            with self.assertRaises(InvalidCell) as caught:
                self.office.watch("ann", wrong)
            self.assertIs(caught.exception.value, wrong)
        self.assertEqual(self.office.watched("ann"), ((A1, ("clear", "1", n(1))),))
        for some_cell in (("all", (0, "", 0, 0), (999999, "abcdefgh", 99, 99)), ("z", COLUMNS[0], ROWS[0])):
            self.office.watch("ann", some_cell)
        self.assertEqual(len(self.office.watched("ann")), 3)

    def test_names_ahead_of_cells(self):
        for person in NOBODY:
            for call in ("see", "watch"):
                for some_cell in (A1, None):
                    with self.assertRaises(InvalidName) as caught:
                        getattr(self.office, call)(person, some_cell)
                    self.assertIs(caught.exception.value, person)
            for call in ("watched", "news"):
                with self.assertRaises(InvalidName):
                    getattr(self.office, call)(person)


if __name__ == "__main__":
    unittest.main()
