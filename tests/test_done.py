"""[25]: what each deed makes of a book, who may do it, and when it is void."""

import random
import unittest

from ledgerloom.books import Book
from ledgerloom.deeds import done
from ledgerloom.errors import InvalidDeed, InvalidStamp, Undefined
from tests import chance, chance_deeds, model_deeds
from tests.helper import (
    COLUMNS, ODD_THINGS, ROWS, OwnText, area, at, book, call, cell, is_plain, number, own, sheet, text, truth,
)
from tests.test_is_deed import DEEDS

ONE, TWO = ("number", 1, 1), ("number", 2, 1)
A, B, C = COLUMNS[:3]
ANN, BOB = (9, "ann", 0), (9, "bob", 3)
CONTENTS = {(0, 0): ONE, (0, 1): ("text", "a"), (1, 0): ("=", cell("bills", 0, 0)), (2, 2): ("truth", 1)}
BILLS = sheet("bills", 3, 3, CONTENTS)
NOTES = sheet("notes", 1, 1, {})
VIEWS = (("few", "bills", ("op", "=", ("here", A), number(1)), ((A, "down"),)), ("lost", "none", truth(1), ()))
SUMMARIES = (("most", "few", A, B),)
WRITE = (("bob", "bills", None, "write"),)
NO_STAMPS = [
    (0, "ann", 0), (-1, "ann", 0), (1000000, "ann", 0), (True, "ann", 0), ("1", "ann", 0), (1, "all", 0), (1, "", 0),
    (1, "Ann", 0), (1, None, 0), (1, "ann", -1), (1, "ann", 100), (1, "ann", False), (1, "ann", "0"), (1, "ann"),
    (1, "ann", 0, 0), (1,), [1, "ann", 0], ((1, "ann", 0),), (None, "ann", 0), (1, "ann", None), ("ann", 1, 0), None,
    (1, ["ann"], 0), *ODD_THINGS,
]


def of(*sheets, rights=WRITE, views=VIEWS, summaries=SUMMARIES):
    """A book of ann."""
    return book(*sheets, views=views, summaries=summaries, rights=rights)


BOOK = of(BILLS, NOTES)


def parts_of(some_book):
    """All that a book holds."""
    return (some_book.owner, some_book.sheets, some_book.views, some_book.summaries, some_book.rights)


class DoneTest(unittest.TestCase):
    def does(self, deed, stamp=ANN, some_book=BOOK):
        """The book that comes of the deed."""
        parts = parts_of(some_book)
        found = done(some_book, stamp, deed)
        self.assertEqual(parts_of(some_book), parts)
        self.assertIs(type(found), Book)
        self.assertTrue(is_plain(parts_of(found)))
        self.assertEqual(found, done(some_book, own(stamp), own(deed)))
        self.assertTrue(is_plain(parts_of(done(some_book, own(stamp), own(deed)))))
        self.assertEqual(found, model_deeds.done(some_book, stamp, deed))
        return found

    def void(self, deed, stamp=ANN, some_book=BOOK):
        parts = parts_of(some_book)
        with self.assertRaises(Undefined) as caught:
            done(some_book, stamp, deed)
        self.assertEqual(caught.exception.what, "void")
        self.assertEqual(parts_of(some_book), parts)
        self.assertIsNone(model_deeds.done(some_book, stamp, deed))

    def both(self, deed, told, some_book=BOOK):
        """The deed makes the same of the owner and of one who may."""
        for stamp in (ANN, BOB):
            self.assertEqual(self.does(deed, stamp, some_book), told(stamp))

    def test_sheets(self):
        self.assertEqual(self.does(("sheet", "aa")), of(("aa", (), (), ()), BILLS, NOTES))
        self.assertEqual(self.does(("sheet", "c")), of(BILLS, ("c", (), (), ()), NOTES))
        self.assertEqual(self.does(("sheet", "z")), of(BILLS, NOTES, ("z", (), (), ())))
        self.assertEqual(self.does(("unsheet", "bills")), of(NOTES))
        self.assertEqual(self.does(("unsheet", "notes")), of(BILLS))
        for name in ("bills", "notes"):
            self.void(("sheet", name))
        for name in ("bill", "few", "ann"):
            self.void(("unsheet", name))
        four = of(*[(name, (), (), ()) for name in ("a", "b", "c", "d")])
        self.void(("sheet", "e"), ANN, four)
        self.void(("unsheet", "e"), ANN, four)
        self.assertEqual(len(self.does(("unsheet", "d"), ANN, four).sheets), 3)
        self.void(("unsheet", "bills"), ANN, of(BILLS))

    def test_rows_and_columns_put_in(self):
        for word, side, marks, others in (("rows", 1, ROWS, COLUMNS), ("columns", 2, COLUMNS, ROWS)):
            for place, at_place in ((None, 0), (marks[0], 1), (marks[1], 2), (marks[2], 3)):
                for many in (1, 2, 5):
                    for stamp in (ANN, BOB):
                        found = self.does((word, "bills", place, many), stamp)
                        fresh = tuple((*stamp, k) for k in range(many))
                        told = marks[:at_place] + fresh + marks[at_place:3]
                        self.assertEqual(found.sheets[0][side], told)
                        self.assertEqual(found.sheets[0][3], BILLS[3])
                        self.assertEqual(found.sheets[0][3 - side], BILLS[3 - side])
                        self.assertEqual(found.sheets[1], NOTES)
            for place in (marks[3], others[0], (1, "", 0, 9), (*ANN, 0)):
                self.void((word, "bills", place, 1))
            self.void((word, "none", None, 1))
            self.void((word, "few", None, 1))

    def test_marks_that_are_there_already(self):
        for word, side in (("rows", 1), ("columns", 2)):
            first = self.does((word, "bills", None, 2))
            for many in (1, 2, 5):
                self.void((word, "bills", None, many), ANN, first)
            self.void((word, "bills", ROWS[0] if side == 1 else A, 1), ANN, first)
            self.does((word, "notes", None, 2), ANN, first)
            self.does(("columns" if word == "rows" else "rows", "bills", None, 2), ANN, first)
            for stamp in ((8, "ann", 0), (9, "ann", 1), (9, "bob", 0)):
                self.does((word, "bills", None, 2), stamp, first)
            bare = self.does((("unrow" if word == "rows" else "uncolumn"), "bills", (*ANN, 0)), ANN, first)
            self.does((word, "bills", None, 1), ANN, bare)
            self.void((word, "bills", None, 2), ANN, bare)

    def test_rows_and_columns_taken_out_with_their_cells(self):
        for place in range(3):
            self.both(("unrow", "bills", ROWS[place]), lambda _: of(
                ("bills", ROWS[:place] + ROWS[place + 1:3], COLUMNS[:3],
                    tuple(one for one in BILLS[3] if one[0] != ROWS[place])),
                NOTES,
            ))
            self.both(("uncolumn", "bills", COLUMNS[place]), lambda _: of(
                ("bills", ROWS[:3], COLUMNS[:place] + COLUMNS[place + 1:3],
                 tuple(one for one in BILLS[3] if one[1] != COLUMNS[place])), NOTES,
            ))
        for deed in (
            ("unrow", "bills", ROWS[3]), ("unrow", "bills", A), ("uncolumn", "bills", COLUMNS[3]),
            ("unrow", "none", ROWS[0]),
            ("uncolumn", "bills", ROWS[0]), ("uncolumn", "none", A),
        ):
            self.void(deed)
        self.assertEqual(self.does(("unrow", "notes", ROWS[0])).sheets[1], ("notes", (), COLUMNS[:1], ()))

    def test_rows_and_columns_moved(self):
        for word, side, marks in (("moverow", 1, ROWS), ("movecolumn", 2, COLUMNS)):
            for line, place, told in (
                (0, None, (0, 1, 2)), (1, None, (1, 0, 2)), (2, None, (2, 0, 1)), (0, 1, (1, 0, 2)), (0, 2, (1, 2, 0)),
                (1, 0, (0, 1, 2)), (1, 2, (0, 2, 1)), (2, 0, (0, 2, 1)), (2, 1, (0, 1, 2)),
            ):
                deed = (word, "bills", marks[line], None if place is None else marks[place])
                for stamp in (ANN, BOB):
                    found = self.does(deed, stamp)
                    self.assertEqual(found.sheets[0][side], tuple(marks[k] for k in told))
                    self.assertEqual(found.sheets[0][3], BILLS[3])
                    self.assertEqual(found == BOOK, told == (0, 1, 2))
            for line, place in ((marks[0], marks[0]), (marks[2], marks[2]), (marks[3], marks[0]), (marks[0], marks[3]),
                                (marks[3], None), (marks[3], marks[3])):
                self.void((word, "bills", line, place))
            self.void((word, "none", marks[0], None))

    def test_contents(self):
        for content in (TWO, ("text", ""), ("error", "ring"), ("=", number(1)), ("=", cell("none", 0, 0))):
            for place in ((0, 0), (0, 2), (1, 0), (2, 1), (2, 2)):
                self.both(("set", *at("bills", *place), content), lambda _: of(
                    sheet("bills", 3, 3, {**CONTENTS, place: content}), NOTES
                ))
        for place in CONTENTS:
            left = {other: content for other, content in CONTENTS.items() if other != place}
            self.both(("clear", *at("bills", *place)), lambda _: of(sheet("bills", 3, 3, left), NOTES))
        self.assertEqual(self.does(("set", *at("bills", 0, 0), ONE)), BOOK)
        for place in ((0, 2), (1, 1), (2, 0)):
            self.void(("clear", *at("bills", *place)))
        for deed in (
            ("set", "none", ROWS[0], A), ("set", "bills", ROWS[3], A), ("set", "bills", ROWS[0], COLUMNS[3]),
            ("set", "bills", A, ROWS[0]), ("set", "notes", ROWS[0], B), ("set", "few", ROWS[0], A),
        ):
            self.void((*deed, ONE))
            self.void(("clear", *deed[1:]))

    def test_put_through_a_view(self):
        for stamp in (ANN, BOB):
            for place, row in ((0, 0), (1, 1)):
                for column in range(3):
                    deed = ("put", "few", place, COLUMNS[column], TWO)
                    found = self.does(deed, stamp)
                    self.assertEqual(found, self.does(("set", *at("bills", row, column), TWO), stamp))
            for deed in (("put", "few", 2, A, TWO), ("put", "few", 99, A, TWO), ("put", "few", 0, COLUMNS[3], TWO),
                         ("put", "fewer", 0, A, TWO), ("put", "lost", 0, A, TWO), ("put", "most", 0, A, TWO)):
                self.void(deed, stamp)

    def test_put_by_the_rows_as_the_stamps_person_has_them(self):
        views = (("few", "bills", ("op", "<", ("here", A), number(9)), ((B, "up"),)),)
        some_sheet = sheet("bills", 3, 3, {
            (0, 0): ONE, (0, 1): TWO, (1, 0): ("=", cell("bills", 0, 1)), (1, 1): ONE, (2, 0): ONE,
            (2, 1): ("number", 0, 1)
        })
        # bob may not read the second column: the key of the second row is veiled for him; the rest stand as they are.
        rights = (("bob", "bills", A, "read"), ("bob", "bills", C, "write"))
        some_book = of(some_sheet, rights=rights, views=views)
        for place, rows in ((0, (2, 0)), (1, (1, 2)), (2, (0, None))):
            for stamp, row in zip((ANN, BOB), rows):
                if row is None:
                    self.void(("put", "few", place, C, TWO), stamp, some_book)
                else:
                    found = self.does(("put", "few", place, C, TWO), stamp, some_book)
                    self.assertEqual(found, done(some_book, ANN, ("set", *at("bills", row, 2), TWO)))
        for column in (A, B):
            self.void(("put", "few", 0, column, TWO), BOB, some_book)

    def test_views(self):
        new = ("all", "notes", truth(0), ())
        self.assertEqual(self.does(("view", new)), of(BILLS, NOTES, views=(new, *VIEWS)))
        self.void(("view", new), BOB)
        new = ("fewer", "bills", text("a"), ((COLUMNS[20], "up"),))
        self.both(("view", new), lambda _: of(BILLS, NOTES, views=(VIEWS[0], new, VIEWS[1])))
        new = ("few", "bills", cell("none", 0, 0), ())
        self.both(("view", new), lambda _: of(BILLS, NOTES, views=(new, VIEWS[1])))
        self.both(("view", VIEWS[0]), lambda _: BOOK)
        self.both(("unview", "few"), lambda _: of(BILLS, NOTES, views=VIEWS[1:]))
        self.assertEqual(self.does(("unview", "lost")), of(BILLS, NOTES, views=VIEWS[:1]))
        for stamp in (ANN, BOB):
            for name in ("fe", "most", "bills", "all"):
                self.void(("unview", name), stamp)

    def test_views_of_sheets_of_which_one_may_not_write_all(self):
        gone = ("few", "none", truth(1), ())
        self.assertEqual(self.does(("view", gone)).views[0], gone)
        self.void(("view", gone), BOB)
        self.void(("unview", "lost"), BOB)
        self.void(("view", ("lost", "bills", truth(1), ())), BOB)
        self.does(("view", ("lost", "bills", truth(1), ())))
        self.void(("view", ("few", "notes", truth(1), ())), BOB)
        both = WRITE + (("all", "notes", A, "write"), ("bob", "none", None, "write"))
        some_book = of(BILLS, NOTES, rights=both)
        self.does(("view", ("few", "notes", truth(1), ())), BOB, some_book)
        self.void(("view", gone), BOB, some_book)
        self.void(("unview", "lost"), BOB, some_book)
        some_book = of(BILLS, NOTES, rights=both[1:])
        self.void(("view", ("few", "notes", truth(1), ())), BOB, some_book)
        self.does(("view", ("more", "notes", truth(1), ())), BOB, some_book)
        self.void(("unview", "few"), BOB, some_book)

    def test_summaries_and_rules_are_the_owners(self):
        new = ("all", "none", A, A)
        self.assertEqual(self.does(("summary", new)), of(BILLS, NOTES, summaries=(new, *SUMMARIES)))
        new = ("most", "none", B, B)
        self.assertEqual(self.does(("summary", new)), of(BILLS, NOTES, summaries=(new,)))
        self.assertEqual(self.does(("summary", SUMMARIES[0])), BOOK)
        self.assertEqual(self.does(("unsummary", "most")), of(BILLS, NOTES, summaries=()))
        for name in ("mos", "few", "lost", "bills"):
            self.void(("unsummary", name))
        for rule in (("all", "none", None, "none"), ("ann", "bills", C, "read"), WRITE[0]):
            self.assertEqual(self.does(("rule", rule)), of(BILLS, NOTES, rights=(*WRITE, rule)))
        rights = tuple(("eve", "bills", column, "read") for column in COLUMNS[:5])
        for place in range(5):
            found = self.does(("unrule", place), ANN, of(BILLS, NOTES, rights=rights))
            self.assertEqual(found.rights, rights[:place] + rights[place + 1:])
        for place in (5, 6, 99):
            self.void(("unrule", place), ANN, of(BILLS, NOTES, rights=rights))
        self.void(("unrule", 0), ANN, of(BILLS, NOTES, rights=()))
        for deed in (
            ("sheet", "z"), ("unsheet", "notes"), ("summary", new), ("unsummary", "most"), ("rule", WRITE[0]),
            ("unrule", 0)
        ):
            self.does(deed)
            everywhere = WRITE + tuple(("all", name, None, "write") for name in ("notes", "z", "none"))
            self.void(deed, BOB, of(BILLS, NOTES, rights=everywhere))

    def test_who_may_write_a_column(self):
        deeds = [("set", *at("bills", 0, 1), TWO), ("clear", *at("bills", 0, 1)), ("put", "few", 0, B, TWO)]
        read = ("all", "bills", None, "read")
        for rights, may in (
            ((), False), ((read,), False), (WRITE, True), ((read, ("bob", "bills", B, "write")), True),
            ((read, ("bob", "bills", A, "write")), False), ((read, ("all", "bills", B, "write")), True),
            ((("bob", "bills", B, "write"), read), False), ((read, ("eve", "bills", None, "write")), False),
            ((read, ("bob", "notes", None, "write")), False), (WRITE + (("all", "bills", B, "none"),), False),
            (WRITE + (("bob", "bills", A, "read"),), True),
        ):
            some_book = of(BILLS, NOTES, rights=rights)
            for deed in deeds:
                self.does(deed, ANN, some_book)
                if may:
                    self.does(deed, BOB, some_book)
                else:
                    self.void(deed, BOB, some_book)

    def test_who_may_write_all_columns(self):
        deeds = [
            ("rows", "bills", None, 1), ("unrow", "bills", ROWS[0]), ("moverow", "bills", ROWS[1], None),
            ("unview", "few"),
            ("columns", "bills", B, 2), ("uncolumn", "bills", B), ("movecolumn", "bills", B, C), ("view", VIEWS[0]),
        ]
        each = tuple(("bob", "bills", column, "write") for column in COLUMNS[:3])
        for rights, may in (
            ((), False), (WRITE, True), (each, True), (each[:2], False), (each[1:], False), (each[::2], False),
            (WRITE + (("bob", "bills", C, "read"),), False), (WRITE + (("bob", "bills", COLUMNS[3], "none"),), True),
            ((("all", "bills", None, "read"),) + each, True), (each + (("all", "bills", None, "read"),), False),
            ((("all", "bills", None, "write"),), True), ((("eve", "bills", None, "write"),), False),
        ):
            some_book = of(BILLS, NOTES, rights=rights)
            for deed in deeds:
                self.does(deed, ANN, some_book)
                if may:
                    self.does(deed, BOB, some_book)
                else:
                    self.void(deed, BOB, some_book)

    def test_a_sheet_without_columns(self):
        bare = ("bills", ROWS[:2], (), ())
        for rights, may in (
            ((), False), (WRITE, True), ((("all", "bills", None, "write"),), True),
            ((("bob", "bills", A, "write"),), False),
            (WRITE + (("bob", "bills", A, "none"),), True), (WRITE + (("all", "bills", None, "read"),), False),
            ((("bob", "bills", None, "none"), ("all", "bills", None, "write")), True),
            (WRITE + (("bob", "notes", None, "none"), ("eve", "bills", None, "none")), True),
            ((("bob", "bills", None, "read"), ("bob", "bills", A, "write")), False),
        ):
            some_book = of(bare, NOTES, rights=rights)
            for deed in (
                ("columns", "bills", None, 2), ("rows", "bills", ROWS[0], 2), ("unrow", "bills", ROWS[1]),
                ("view", VIEWS[0]),
                ("moverow", "bills", ROWS[1], None), ("unview", "few"),
            ):
                self.does(deed, ANN, some_book)
                if may:
                    self.does(deed, BOB, some_book)
                else:
                    self.void(deed, BOB, some_book)

    def test_too_many_rows_columns_and_places(self):
        for rows, columns, word, many, may in (
            (25, 0, "rows", 5, True), (26, 0, "rows", 5, False), (30, 1, "rows", 1, False), (29, 3, "rows", 1, True),
            (0, 7, "columns", 5, True), (0, 8, "columns", 5, False), (8, 12, "columns", 1, False),
            (8, 11, "columns", 1, True),
            (20, 4, "rows", 5, True), (21, 4, "rows", 5, False), (20, 4, "columns", 1, True),
            (20, 4, "columns", 2, False),
            (25, 4, "rows", 1, False), (25, 3, "columns", 1, True), (25, 0, "columns", 4, True),
            (25, 0, "columns", 5, False),
        ):
            some_book = of(sheet("bills", rows, columns, {}))
            told = self.does if may else self.void
            told((word, "bills", None, many), ANN, some_book)
            told((word, "bills", None, many), BOB, some_book)
        some_book = of(sheet("bills", 10, 5, {}), sheet("notes", 5, 9, {}))
        self.does(("rows", "bills", None, 1), ANN, some_book)
        self.void(("rows", "bills", None, 2), ANN, some_book)
        self.void(("columns", "bills", None, 1), ANN, some_book)
        self.does(("columns", "notes", None, 1), ANN, some_book)
        self.void(("columns", "notes", None, 2), ANN, some_book)

    def test_too_many_views_summaries_and_rules(self):
        names = ("a", "b", "c", "d", "e", "f")
        views = tuple((name, "bills", truth(1), ()) for name in names)
        summaries = tuple((name, "few", A, A) for name in names)
        for many in (5, 6):
            some_book = of(BILLS, views=views[:many], summaries=summaries[:many], rights=WRITE * (14 + many))
            told = self.does if many == 5 else self.void
            told(("view", ("z", "bills", truth(1), ())), ANN, some_book)
            told(("view", ("z", "bills", truth(1), ())), BOB, some_book)
            told(("summary", ("z", "few", A, A)), ANN, some_book)
            told(("rule", ("all", "bills", None, "read")), ANN, some_book)
            self.does(("view", ("a", "bills", truth(0), ())), BOB, some_book)
            self.does(("summary", ("a", "bills", A, A)), ANN, some_book)

    def test_what_stands_within_may_be_gone(self):
        for deed in (
            ("set", *at("bills", 0, 0), ("=", call("sum", area("none", 0, 0, 9, 9)))),
            ("view", ("z", "bills", cell("none", 0, 0), ((COLUMNS[20], "up"),))),
            ("summary", ("z", "none", COLUMNS[20], A)),
            ("rule", ("nobody", "none", COLUMNS[20], "write")), ("put", "few", 0, A, ("=", cell("bills", 9, 9))),
        ):
            self.does(deed)

    def test_the_life_and_the_clock_of_a_stamp_count_for_nothing_else(self):
        for stamp in ((1, "ann", 99), (999999, "ann", 0), (500, "ann", 50)):
            self.assertEqual(self.does(("unsheet", "notes"), stamp), of(BILLS))
            self.assertEqual(self.does(("rows", "notes", None, 1), stamp).sheets[1][1], ((*stamp, 0), ROWS[0]))

    def test_over_books_made_by_chance(self):
        dice = random.Random(25)
        found = set()
        for _ in range(400):
            some_book = chance.some_shared_book(dice)
            for _ in range(6):
                stamp, deed = chance_deeds.some_stamp(dice), chance_deeds.some_deed(dice, some_book)
                made = model_deeds.done(some_book, stamp, deed)
                found.add((deed[0], stamp[1] == "ann", made is not None))
                if made is None:
                    self.void(deed, stamp, some_book)
                else:
                    some_book = self.does(deed, stamp, some_book)
        for deed in DEEDS:
            self.assertIn((deed[0], True, True), found)
            self.assertIn((deed[0], False, False), found)

    def refuses(self, kind, wrong, stamp, deed):
        with self.assertRaises(kind) as caught:
            done(BOOK, stamp, deed)
        self.assertIs(caught.exception.value, wrong)

    def test_refuses_what_is_no_stamp_ahead_of_what_is_no_deed(self):
        for stamp in NO_STAMPS:
            for deed in (("sheet", "z"), ("sheet", "bills"), None, ("undo", ANN)):
                self.refuses(InvalidStamp, stamp, stamp, deed)
        self.refuses(InvalidStamp, stamp := (1, OwnText("all"), 0), stamp, DEEDS[0])

    def test_refuses_what_is_no_deed_ahead_of_what_is_void(self):
        for stamp in (ANN, BOB, (1, "nobody", 0)):
            for deed in [
                None, (), ("sheet",), ("sheet", "Z"), ("undo", ANN), ("redo", ANN), ["sheet", "z"],
                ("rows", "bills", None, 6),
                ("set", *at("none", 0, 0), None), ("unrule", 100), ("put", "few", 100, A, ONE), *ODD_THINGS,
            ]:
                self.refuses(InvalidDeed, deed, stamp, deed)

    def test_by_name(self):
        self.assertEqual(done(deed=("unsheet", "notes"), stamp=ANN, book=BOOK), of(BILLS))


if __name__ == "__main__":
    unittest.main()
