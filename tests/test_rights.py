"""[14], [15]: which rights a book may have, and what right a person has on a column."""

import unittest

from ledgerloom.books import Book, right_of
from ledgerloom.errors import InvalidMark, InvalidName, InvalidRights
from tests.helper import (
    COLUMNS, ODD_THINGS, ROWS, WRONG_EVERYWHERE, OwnText, book, found_at, is_plain, own, paths, put_at, sheet,
)

SHEETS = (sheet("bills", 3, 3, {}), sheet("notes", 0, 2, {}), ("other", ROWS[:1], (), ()))
RULES = (
    ("all", "bills", None, "read"), ("bob", "bills", COLUMNS[1], "write"), ("eve", "none", COLUMNS[9], "none"),
    ("ann", "notes", None, "none"),
)
NO_PERSONS = [
    "", "abcdefghi", "Bob", "b b", "bob1", "\u00e4", " bob", "bob\n", 1, True, False, None, ("bob",), ["bob"], b"bob",
    (),
]


class RightsTest(unittest.TestCase):
    def let(self, rights):
        for same in (rights, own(rights)):
            found = Book("ann", SHEETS, (), (), same).rights
            self.assertEqual(found, rights)
            self.assertTrue(is_plain(found))

    def barred(self, rights):
        with self.assertRaises(InvalidRights) as caught:
            Book("ann", SHEETS, (), (), rights)
        self.assertIs(caught.exception.value, rights)

    def test_some_rights(self):
        self.let(())
        self.let(RULES)
        for person in ("all", "bob", "ann", "abcdefgh", "a"):
            for column in (None, COLUMNS[0], COLUMNS[20], (0, "", 0, 0), (999999, "all", 99, 99)):
                for word in ("none", "read", "write"):
                    self.let(((person, "bills", column, word),))

    def test_number_of_rules(self):
        for many in (0, 1, 2, 19, 20):
            self.let((RULES * 5)[:many])
            self.let(RULES[:1] * many)
        self.barred(RULES[:1] * 21)
        self.barred((RULES * 6)[:21])
        self.barred(RULES * 2000)

    def test_in_any_order_and_twice(self):
        self.let(RULES[::-1])
        self.let(RULES + RULES[::-1])

    def test_wrong_parts(self):
        for name in [*NO_PERSONS, *ODD_THINGS]:
            if name not in ("ann", "value"):
                self.barred(((name, "bills", None, "read"),))
                self.barred((("bob", name, None, "read"),))
        for column in [
            "all", "", 0, True, (), (True, "", 0, 0), (1, "", False, 0), (1, "", 0, 100), (1, "", 0), [1, "", 0, 0],
            (None,), *ODD_THINGS,
        ]:
            self.barred((("bob", "bills", column, "read"),))
        for word in [
            "", "Read", "reads", "all", "write ", "rea", None, 0, True, ("read",), ["read"], b"read", *ODD_THINGS
        ]:
            self.barred((("bob", "bills", None, word),))
            self.barred((("bob", "bills", COLUMNS[0], word),))

    def test_what_is_no_rights_at_all(self):
        for thing in [*ODD_THINGS, None, RULES[0], list(RULES), "read", ("read",), {"bob": "read"}]:
            if thing != ():
                self.barred(thing)
            if thing != RULES[0]:
                self.barred((thing,))
            self.barred(RULES[:2] + (thing,) + (RULES if thing != RULES[0] else (None,)))
        for rule in RULES:
            self.barred((list(rule),))
            for many in range(4):
                self.barred((rule[:many],))
            self.barred((rule + (None,),))
            self.barred((rule + ("read",),))

    def test_odd_things_in_each_place(self):
        for path in paths(RULES):
            for thing in WRONG_EVERYWHERE:
                self.barred(put_at(RULES, path, thing))
            part = found_at(RULES, path)
            if isinstance(part, tuple):
                self.barred(put_at(RULES, path, list(part)))
                for thing in WRONG_EVERYWHERE:
                    self.barred(put_at(RULES, path, part + (thing,)))


class RightOfTest(unittest.TestCase):
    def is_right(self, rights, person, column, told, name="bills"):
        some_book = book(*SHEETS, rights=rights)
        for some_person, some_name, some_column in ((person, name, column), (own(person), own(name), own(column))):
            found = right_of(some_book, some_person, some_name, some_column)
            self.assertEqual(found, told)
            self.assertIs(type(found), str)

    def test_the_owner_writes(self):
        for rights in (
            (), RULES, (("ann", "bills", None, "none"),), (("all", "bills", COLUMNS[0], "read"),),
            (("ann", "bills", None, "read"),),
        ):
            for column in COLUMNS[:3]:
                self.is_right(rights, "ann", column, "write")
                self.is_right(rights, "ann", COLUMNS[1], "write", "notes")

    def test_none_without_a_rule(self):
        for column in COLUMNS[:3]:
            self.is_right((), "bob", column, "none")
            self.is_right((("eve", "bills", None, "write"),), "bob", column, "none")

    def test_rules_of_each_kind(self):
        for word in ("none", "read", "write"):
            for person in ("bob", "all"):
                self.is_right(((person, "bills", None, word),), "bob", COLUMNS[2], word)
                self.is_right(((person, "bills", COLUMNS[2], word),), "bob", COLUMNS[2], word)
                self.is_right(((person, "bills", COLUMNS[1], word),), "bob", COLUMNS[2], "none")
                self.is_right(((person, "notes", None, word),), "bob", COLUMNS[1], "none")
                self.is_right(((person, "notes", COLUMNS[1], word),), "bob", COLUMNS[1], "none")
                self.is_right(((person, "notes", COLUMNS[1], word),), "bob", COLUMNS[1], word, "notes")

    def test_rules_of_others(self):
        for person in ("bobb", "bo", "eve", "ann", "al"):
            self.is_right(((person, "bills", None, "write"),), "bob", COLUMNS[0], "none")
        self.is_right((("ann", "bills", None, "none"), ("eve", "bills", None, "read")), "eve", COLUMNS[0], "read")

    def test_the_last_rule_that_speaks_counts(self):
        kinds = [(person, column) for person in ("bob", "all") for column in (None, COLUMNS[0])]
        for person, column in kinds:
            for other_person, other_column in kinds:
                for first in ("none", "read", "write"):
                    for last in ("none", "read", "write"):
                        rights = ((person, "bills", column, first), (other_person, "bills", other_column, last))
                        self.is_right(rights, "bob", COLUMNS[0], last)
                        for silent in (
                            ("eve", "bills", None, first), ("bob", "bills", COLUMNS[1], first),
                            ("bob", "notes", None, first),
                        ):
                            self.is_right(rights + (silent,), "bob", COLUMNS[0], last)
                            self.is_right((silent,) + rights + (silent,) * 17, "bob", COLUMNS[0], last)

    def test_by_turns(self):
        rights = (
            ("all", "bills", None, "read"), ("bob", "bills", COLUMNS[1], "write"), ("bob", "bills", None, "none"),
            ("all", "bills", COLUMNS[2], "read"),
        )
        for many, told in (
            (1, ["read"] * 3), (2, ["read", "write", "read"]), (3, ["none"] * 3), (4, ["none", "none", "read"])
        ):
            for column, word in zip(COLUMNS, told):
                self.is_right(rights[:many], "bob", column, word)
                self.is_right(rights[:many], "ann", column, "write")

    def test_nothing_hangs_on_whose_column_it_is(self):
        columns = ((3, "bob", 0, 0), (3, "all", 0, 0))
        some_book = book(("bills", (), columns, ()), rights=(("all", "bills", columns[1], "read"),))
        self.assertEqual([right_of(some_book, "bob", "bills", column) for column in columns], ["none", "read"])

    def test_by_name(self):
        some_book = book(*SHEETS, rights=RULES)
        self.assertEqual(right_of(column=COLUMNS[1], sheet="bills", person="bob", book=some_book), "write")

    def refuses(self, kind, wrong, person, name, column):
        with self.assertRaises(kind) as caught:
            right_of(book(*SHEETS, rights=RULES), person, name, column)
        self.assertIs(caught.exception.value, wrong)

    def test_refuses_persons(self):
        for person in [
            "all", OwnText("all"), *NO_PERSONS, *[thing for thing in ODD_THINGS if thing not in ("ann", "value")]
        ]:
            self.refuses(InvalidName, person, person, "bills", COLUMNS[0])

    def test_refuses_sheets(self):
        for name in ["bill", "billss", "none", "all", "ann", "value", *NO_PERSONS, SHEETS[0], *ODD_THINGS]:
            for person in ("bob", "ann"):
                self.refuses(InvalidName, name, person, name, COLUMNS[0])

    def test_refuses_columns(self):
        for column in [
            COLUMNS[3], ROWS[0], (2, "bob", 0, 0), (2, "", 0, False), (2, "", False, 0), None, "a", 0, 1, True,
            [2, "", 0, 0],
            COLUMNS[0][:3], COLUMNS[0] + (0,), COLUMNS[:1], *ODD_THINGS,
        ]:
            for person in ("bob", "ann"):
                self.refuses(InvalidMark, column, person, "bills", column)
        self.refuses(InvalidMark, COLUMNS[2], "bob", "notes", COLUMNS[2])
        self.refuses(InvalidMark, COLUMNS[0], "ann", "other", COLUMNS[0])

    def test_a_bool_is_not_taken_for_the_integer_in_a_column_that_is_there(self):
        some_book = book(("bills", (), ((1, "", 0, 1),), ()))
        self.assertEqual(right_of(some_book, "ann", "bills", (1, "", 0, 1)), "write")
        for column in ((True, "", 0, 1), (1, "", False, 1), (1, "", 0, True)):
            with self.assertRaises(InvalidMark):
                right_of(some_book, "ann", "bills", column)

    def test_order_of_errors(self):
        self.refuses(InvalidName, "all", "all", "none", None)
        self.refuses(InvalidName, 7, 7, "bills", COLUMNS[9])
        self.refuses(InvalidName, None, None, "none", COLUMNS[0])
        self.refuses(InvalidName, "none", "bob", "none", COLUMNS[0])
        self.refuses(InvalidName, "none", "bob", "none", None)
        self.refuses(InvalidMark, None, "bob", "bills", None)


if __name__ == "__main__":
    unittest.main()
