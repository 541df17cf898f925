"""[24]: pages of sheets for persons, and which texts are read as pages."""

import random
import unittest

from ledgerloom.errors import InvalidName, InvalidText
from ledgerloom.meaning import value_of
from ledgerloom.pages import page, read_page
from tests import chance, model_shown
from tests.helper import (
    COLUMNS, ODD_THINGS, ROWS, VALUES_IN_ORDER, OwnText, area, at, book, call, cell, is_plain, number, own, sheet,
)
from tests.test_rights import NO_PERSONS
from tests.test_view_rows import down, n

READ = (("all", "bills", None, "read"),)
A = ("text", "a")


class PageTest(unittest.TestCase):
    def pages(self, some_book, told, person="bob", name="bills"):
        found = page(some_book, own(person), own(name))
        self.assertEqual(found, told)
        self.assertIs(type(found), str)
        self.assertEqual(found, model_shown.page(some_book, person, name))

    def test_some_pages(self):
        for lines, told in (
            (((n(1), A), (None, ("truth", 1))), '1;"a"\n;yes'), (((n(-1),),), "-1"), (((None,),), ""),
            (((None, None),), ";"), (((None,), (None,), (None,)), "\n\n"), (((None, None), (None, None)), ";\n;"),
            (((("number", -1, 2), ("error", "zero"), ("truth", 0)),), "-1/2;#zero;no"),
            (((("text", ";"), ("text", ""), ("text", "a;b;")),), '";";"";"a;b;"'),
            (((("text", "?"), ("text", "#zero"), ("text", "1")),), '"?";"#zero";"1"'),
            (((("=", number(7)), ("=", ("minus", cell("bills", 0, 0))), ("=", cell("bills", 0, 2))),), "7;-7;#ring"),
            (((("text", " "), ("text", "/n"), ("text", ":")),), '" ";"/n";":"'),
        ):
            self.pages(book(down(*lines), rights=READ), told)
            self.pages(book(down(*lines)), told, "ann")

    def test_what_is_not_clear(self):
        lines = ((n(1), ("=", cell("bills", 0, 0)), n(3)), (None, ("=", cell("bills", 0, 2)), None))
        for hidden, told in ((0, "?;?;3\n?;3;"), (1, "1;?;3\n;?;"), (2, "1;1;?\n;?;?")):
            rights = READ + (("bob", "bills", COLUMNS[hidden], "none"),)
            self.pages(book(down(*lines), rights=rights), told)
            self.pages(book(down(*lines), rights=rights), "1;1;3\n;3;", "eve")
            self.pages(book(down(*lines), rights=rights), "1;1;3\n;3;", "ann")
        self.pages(book(down(*lines)), "?;?;?\n?;?;?")
        self.pages(book(sheet("bills", 1, 1, {})), "?")

    def test_sheets_without_rows_or_columns_or_with_one(self):
        for rows, columns, told in (
            (0, 0, ""), (0, 3, ""), (1, 0, ""), (3, 0, "\n\n"), (1, 1, ""), (1, 3, ";;"), (3, 1, "\n\n"),
            (30, 1, "\n" * 29), (1, 12, ";" * 11),
        ):
            self.pages(book(sheet("bills", rows, columns, {}), rights=READ), told)
            self.pages(book(sheet("bills", rows, columns, {})), told.replace("", "?") if rows == columns == 1 else (
                "\n".join([";".join(["?"] * columns)] * rows)
            ), "eve")

    def test_rows_and_columns_as_they_stand(self):
        cells = tuple((row, column, n(row[3] * 10 + column[3])) for row in ROWS[:3] for column in COLUMNS[:2])
        some_book = book(("bills", (ROWS[2], ROWS[0], ROWS[1]), (COLUMNS[1], COLUMNS[0]), cells), rights=READ)
        self.pages(some_book, "21;20\n1;0\n11;10")

    def test_values_that_hang_on_other_sheets(self):
        notes = sheet("notes", 1, 2, {(0, 0): ("=", call("sum", area("bills", 0, 0, 1, 0))), (0, 1): n(4)})
        some_book = book(down((n(1),), (n(2),)), notes, rights=READ + (("bob", "notes", None, "read"),))
        self.pages(some_book, "3;4", "bob", "notes")
        self.pages(some_book, "?;?", "eve", "notes")
        some_book = book(down((n(1),), (n(2),)), notes, rights=(("bob", "notes", None, "read"),))
        self.pages(some_book, "?;4", "bob", "notes")

    def test_alike_books_have_the_same_pages_which_are_read_again(self):
        dice = random.Random(24)
        signs = set()
        for _ in range(120):
            some_book = chance.some_shared_book(dice)
            for person in ("ann", "bob", "eve"):
                other = chance.alike_book(dice, some_book, lambda one: model_shown.is_open(some_book, person, one))
                for name, rows, columns, _ in some_book.sheets:
                    told = page(some_book, person, name)
                    self.assertEqual(told, model_shown.page(some_book, person, name))
                    self.assertEqual(told, page(other, person, name))
                    signs |= set(told)
                    if rows and columns:
                        self.reads_again(some_book, person, name, read_page(told))
        self.assertLessEqual(set('?;\n"#/-1'), signs)

    def reads_again(self, some_book, person, name, found):
        _, rows, columns, _ = dict((some_sheet[0], some_sheet) for some_sheet in some_book.sheets)[name]
        clear = model_shown.clear_cells(some_book, person)
        told = []
        for row in rows:
            cells = [(name, row, column) for column in columns]
            told.append(tuple(value_of(some_book, one) if one in clear else "?" for one in cells))
        self.assertEqual(found, tuple(told))

    def test_by_name(self):
        self.assertEqual(page(sheet="bills", person="ann", book=book(down((n(1), None)))), "1;")

    def refuses(self, wrong, person, name):
        with self.assertRaises(InvalidName) as caught:
            page(book(down((n(1),)), rights=READ), person, name)
        self.assertIs(caught.exception.value, wrong)

    def test_refuses_persons_ahead_of_sheets(self):
        odd = [thing for thing in ODD_THINGS if thing not in ("ann", "value")]
        for person in ["all", OwnText("all"), *NO_PERSONS, *odd]:
            self.refuses(person, person, "bills")
            self.refuses(person, person, "none")

    def test_refuses_what_is_no_sheet(self):
        for name in [
            "bill", "billss", "none", "Bills", None, 0, True, ("bills",), ["bills"], down((n(1),)), at("bills", 0, 0),
            *ODD_THINGS, *NO_PERSONS,
        ]:
            for person in ("ann", "bob"):
                self.refuses(name, person, name)


class ReadPageTest(unittest.TestCase):
    def reads(self, text, told):
        for same in (text, OwnText(text)):
            found = read_page(same)
            self.assertEqual(found, told)
            self.assertTrue(is_plain(found))

    def barred(self, text):
        for same in (text, own(text)):
            with self.assertRaises(InvalidText) as caught:
                read_page(same)
            self.assertIs(caught.exception.value, same)

    def test_some_texts(self):
        for text, told in (
            ("", ((None,),)), ("?", (("?",),)), ("1", ((n(1),),)), (";", ((None, None),)), ("\n", ((None,), (None,))),
            ("1;?\n?;2", ((n(1), "?"), ("?", n(2)))), ('"a;b";3', ((("text", "a;b"), n(3)),)),
            ('";";";"', ((("text", ";"), ("text", ";")),)), ('"";""', ((("text", ""), ("text", "")),)),
            ('"?"', ((("text", "?"),),)), ("yes;no;#kind", ((("truth", 1), ("truth", 0), ("error", "kind")),)),
            ("-1/2\n0\n?", ((("number", -1, 2),), (n(0),), ("?",))),
            ("1;2\n3;4\n;", ((n(1), n(2)), (n(3), n(4)), (None, None))),
            ("1\n", ((n(1),), (None,))), ("\n1", ((None,), (n(1),))), ("1;2\n;", ((n(1), n(2)), (None, None))),
            ('"1;2"', ((("text", "1;2"),),)), ("?;?\n?;?", (("?", "?"), ("?", "?"))),
        ):
            self.reads(text, told)

    def test_all_values(self):
        for value in VALUES_IN_ORDER:
            some_book = book(down((value, None, value), (n(1), value, A)), rights=READ)
            self.reads(page(some_book, "bob", "bills"), ((value, None, value), (n(1), value, A)))

    def test_lines_of_unlike_numbers_of_entries(self):
        for text in (
            "1;2\n3", "1\n2;3", ";\n", "\n;", "1;2\n", "1;2\n3;4\n", "?;?;?\n?;?", '"a;b"\n1;2', '1;2\n"a;b"',
            ";;\n;\n;;",
            "1;2;\n1;2", "\n\n;",
        ):
            self.barred(text)

    def test_texts_that_are_not_closed(self):
        for text in ('"', '"a', 'a"', '"a;b', '1;"a', '"a"b', 'b"a"', '"a""b"', '"a";"', '"a\nb"', '"\n"', '""a',
            '"""'):
            self.barred(text)
            self.barred(text + ";1")
            self.barred("1;" + text)

    def test_entries_that_no_value_is_written_as(self):
        for entry in (
            "2/4", "1/1", "0/2", "01", "-0", "+1", "1.5", " 1", "1 ", " ", "1/0", "1/-2", "--1", "-", "/", "1/",
            "/2", "a",
            "Yes", "yess", "none", "None", "#", "#nope", "#zero ", "??", "? ", "?1", "\t", "1000000000000000",
            "-1000000000000000", "1/1000000000000000", "9" * 4000, "1\r", "\r", "\x00", '"\\"', '"' + chr(37) + '"',
            '"' + "a" * 41 + '"', '"\u00e9"', '"\t"', "\u0661", "1,2", "1:2", "'a'", "#gone#", "1e3", "0x1",
        ):
            for text in (entry, entry + ";1", "1;" + entry, "1\n" + entry, entry + "\n1", "?;" + entry + ";?"):
                self.barred(text)

    def test_other_line_ends_are_none(self):
        for end in ("\r\n", "\r", "\x0b", "\x0c", "\u2028", "\x85", "\x1c"):
            self.barred(f"1{end}2")
            self.barred(f"1;2{end}3;4")
            self.barred(f"1{end}")

    def test_length(self):
        self.reads(";" * 19999, ((None,) * 20000,))
        self.reads("\n" * 19999, ((None,),) * 20000)
        self.reads(";" * 20000, ((None,) * 20001,))
        self.reads("\n" * 20000, ((None,),) * 20001)
        self.reads("1;" * 9999 + "22", ((n(1),) * 9999 + (n(22),),))
        self.barred(";" * 20001)
        self.barred("\n" * 20001)
        self.barred("1;" * 10000 + "1")
        self.barred("?" * 20001)
        self.barred("?" * 20000)
        self.barred('"' * 20000)
        self.barred('";' * 20000)
        line = ";".join(['"' + "a;" * 20 + '"'] * 11)
        self.reads("\n".join([line] * 40), ((("text", "a;" * 20),) * 11,) * 40)

    def test_what_is_no_string(self):
        for thing in [*ODD_THINGS, None, b"", b"1", ["1"], ("1",), 1, 1.5]:
            if not isinstance(thing, str) or thing == "value":
                self.barred(thing)
        for thing in ODD_THINGS:
            if isinstance(thing, str) and thing != "\n":
                self.barred(thing)

    def test_by_name(self):
        self.assertEqual(read_page(text="1;?"), ((n(1), "?"),))


if __name__ == "__main__":
    unittest.main()
