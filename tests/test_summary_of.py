"""[23]: the groups of a summary, as far as a person may read."""

import random
import unittest

from ledgerloom.errors import InvalidName
from ledgerloom.seeing import summary_of
from tests import chance, model_shown
from tests.helper import (
    COLUMNS, ODD_THINGS, ROWS, VALUES_IN_ORDER, OwnText, book, cell, is_plain, number, own, sheet, truth,
)
from tests.test_rights import NO_PERSONS
from tests.test_view_rows import A, B, YES, down, n

READ = (("bob", "bills", None, "read"),)
SIZE = ("error", "size")
GREAT = 10 ** 15 - 1


class SummaryOfTest(unittest.TestCase):
    def sums(self, some_sheets, condition=YES, key=0, total=1, rights=READ, person="bob", order=(), view="few"):
        """The groups of the summary of two columns at these places."""
        some_book = book(
            *some_sheets, views=(("few", "bills", condition, order),),
            summaries=(("most", view, COLUMNS[key], COLUMNS[total]),), rights=rights,
        )
        found = summary_of(some_book, own(person), own("most"))
        self.assertTrue(is_plain(found))
        self.assertEqual(found, model_shown.summary_of(some_book, person, "most"))
        return found

    def test_some_groups(self):
        lines = (
            (("text", "b"), n(1)), (("text", "a"), n(2)), (("text", "b"), n(3)), (n(7), ("number", 1, 2)),
            (("text", "b"), ("number", 1, 3)),
        )
        told = ((n(7), 1, ("number", 1, 2)), (("text", "a"), 1, n(2)), (("text", "b"), 3, ("number", 13, 3)))
        self.assertEqual(self.sums([down(*lines)]), told)
        self.assertEqual(self.sums([down(*lines)], person="ann", rights=()), told)
        self.assertEqual(self.sums([down(*lines)], order=((COLUMNS[1], "down"), (COLUMNS[0], "up"))), told)
        self.assertEqual(self.sums([down(*lines)], person="eve"), ())
        for group in told:
            self.assertIs(type(group[1]), int)

    def test_keys_of_each_kind(self):
        dice = random.Random(1)
        for _ in range(20):
            values = dice.sample(VALUES_IN_ORDER, 15)
            lines = [(value, n(k)) for k, value in enumerate(values)]
            told = tuple(
                (value, 2, n(2 * values.index(value))) for value in sorted(values, key=VALUES_IN_ORDER.index)
            )
            self.assertEqual(self.sums([down(*(lines + lines[::-1]))]), told)

    def test_none_is_a_key(self):
        self.assertEqual(self.sums([down((None, n(1)), (n(0), n(2)), (None, n(4)))]),
            ((None, 2, n(5)), (n(0), 1, n(2))))
        self.assertEqual(self.sums([sheet("bills", 2, 2, {})]), ((None, 2, n(0)),))

    def test_only_numbers_are_summed(self):
        for value, total in (
            (None, 5), (("text", "7"), 5), (("truth", 1), 5), (("error", "kind"), 5), (("error", "gone"), 5),
            (("error", "size"), 5), (n(-9), -4), (n(0), 5), (("=", cell("none", 0, 0)), 5), (("=", number(4)), 9),
        ):
            self.assertEqual(self.sums([down((n(1), value), (n(1), n(5)))]), ((n(1), 2, n(total)),))
            self.assertEqual(self.sums([down((n(1), n(5)), (n(1), value))]), ((n(1), 2, n(total)),))
            self.assertEqual(self.sums([down((n(2), value))])[0][:2], (n(2), 1))
        self.assertEqual(self.sums([down((n(1), ("text", "a")), (n(1), ("error", "zero")))]), ((n(1), 2, n(0)),))

    def test_a_whole_sum_that_is_too_long(self):
        one = ("text", "a")
        for values, total in (
            ((n(GREAT), n(1)), SIZE), ((n(-GREAT), n(-1)), SIZE), ((n(GREAT), n(1), n(-1)), n(GREAT)),
            ((n(GREAT), n(GREAT), n(-GREAT), n(-GREAT)), n(0)), ((n(GREAT), n(1), ("text", "a"), n(-2)), n(GREAT - 1)),
            ((("number", 1, GREAT), ("number", 1, GREAT - 1)), SIZE),
            ((("number", 1, GREAT), ("number", 1, GREAT - 1), ("number", -1, GREAT)), ("number", 1, GREAT - 1)),
            ((n(GREAT), SIZE), n(GREAT)),
        ):
            lines = [(one, value) for value in values]
            self.assertEqual(self.sums([down(*lines)]), ((one, len(values), total),))
            self.assertEqual(
                self.sums([down((n(0), n(5)), *lines, (("truth", 0), n(6)))]),
                ((n(0), 1, n(5)), (one, len(values), total), (("truth", 0), 1, n(6))),
            )

    def test_key_and_sum_in_one_column(self):
        lines = ((n(3), n(0)), (n(2), n(0)), (n(3), n(0)), (("text", "a"), n(0)), (None, n(0)))
        told = ((None, 1, n(0)), (n(2), 1, n(2)), (n(3), 2, n(6)), (("text", "a"), 1, n(0)))
        self.assertEqual(self.sums([down(*lines)], total=0), told)
        self.assertEqual(self.sums([down(*lines)], key=1, total=0), ((n(0), 5, n(8)),))

    def test_only_the_rows_of_the_view(self):
        lines = ((n(1), n(10)), (n(2), n(20)), (n(1), n(40)), (n(3), n(80)))
        for condition, told in (
            (truth(0), ()), (("op", "=", A, number(1)), ((n(1), 2, n(50)),)),
            (("op", "<", B, number(40)), ((n(1), 1, n(10)), (n(2), 1, n(20)))), (("here", COLUMNS[20]), ()),
        ):
            self.assertEqual(self.sums([down(*lines)], condition), told)
            self.assertEqual(self.sums([down(*lines)], condition, person="ann"), told)

    def test_rows_with_cells_that_are_not_clear(self):
        lines = (
            (n(1), ("=", cell("bills", 0, 2)), n(5)), (n(1), n(2), n(6)), (("=", cell("bills", 2, 2)), n(4), n(7)),
            (None, None, None),
        )
        none, all_three = READ + (("bob", "bills", COLUMNS[2], "none"),), READ
        for rights, told in (
            (none, ((None, 1, n(0)), (n(1), 1, n(2)))),
            (all_three, ((None, 1, n(0)), (n(1), 2, n(7)), (n(7), 1, n(4)))),
            (READ + (("bob", "bills", COLUMNS[0], "none"),), ()), (READ + (("bob", "bills", COLUMNS[1], "none"),), ()),
            ((), ()),
        ):
            self.assertEqual(self.sums([down(*lines)], rights=rights), told)
            self.assertEqual(self.sums([down(*lines)], rights=rights, person="ann"), self.sums([down(*lines)]))

    def test_what_is_not_there(self):
        lines = ((n(1), n(2)), (n(1), n(3)))
        for person in ("ann", "bob"):
            self.assertEqual(self.sums([down(*lines)], view="none", person=person), ())
            self.assertEqual(self.sums([down(*lines)], key=2, person=person), ())
            self.assertEqual(self.sums([down(*lines)], total=2, person=person), ())
            self.assertEqual(self.sums([sheet("notes", 2, 2, {})], person=person), ())
            self.assertEqual(self.sums([sheet("bills", 0, 2, {})], person=person), ())
            self.assertEqual(self.sums([sheet("bills", 2, 0, {})], person=person), ())
            self.assertEqual(self.sums([down(*lines)], person=person), ((n(1), 2, n(5)),))

    def test_over_books_made_by_chance(self):
        dice = random.Random(231)
        found = 0
        for _ in range(150):
            some_book = chance.some_shared_book(dice)
            for person in ("ann", "bob", "eve"):
                other = chance.alike_book(dice, some_book, lambda one: model_shown.is_open(some_book, person, one))
                for name in ("all", "most"):
                    groups = summary_of(some_book, person, name)
                    self.assertEqual(groups, model_shown.summary_of(some_book, person, name))
                    self.assertEqual(groups, summary_of(other, person, name))
                    found += len(groups)
        self.assertGreater(found, 100)

    def test_by_name(self):
        some_book = book(
            down((n(1), n(2))), views=(("few", "bills", YES, ()),), summaries=(("most", "few", COLUMNS[0], COLUMNS[1]),)
        )
        self.assertEqual(summary_of(name="most", person="ann", book=some_book), ((n(1), 1, n(2)),))

    def refuses(self, wrong, person, name):
        some_book = book(
            down((n(1), n(2))), views=(("few", "bills", YES, ()),), summaries=(("most", "few", COLUMNS[0], COLUMNS[1]),)
        )
        with self.assertRaises(InvalidName) as caught:
            summary_of(some_book, person, name)
        self.assertIs(caught.exception.value, wrong)

    def test_refuses_persons_ahead_of_names(self):
        odd = [thing for thing in ODD_THINGS if thing not in ("ann", "value")]
        for person in ["all", OwnText("all"), *NO_PERSONS, *odd]:
            self.refuses(person, person, "most")
            self.refuses(person, person, "none")

    def test_refuses_what_is_no_summary(self):
        for name in [
            "few", "mos", "mostly", "Most", "bills", None, True, ("most",), ["most"], ROWS[0], *ODD_THINGS, *NO_PERSONS
        ]:
            for person in ("ann", "bob"):
                self.refuses(name, person, name)


if __name__ == "__main__":
    unittest.main()
