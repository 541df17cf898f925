"""[19]: reckoners that are led through several books."""

import random
import unittest

from ledgerloom.errors import InvalidCell
from ledgerloom.meaning import all_values, value_of
from ledgerloom.reckoning import Reckoner, changed, reached
from tests import chance, model
from tests.helper import COLUMNS, ODD_THINGS, ROWS, area, at, book, call, cell, is_plain, number, own, sheet
from tests.test_meaning import NO_CELLS

YES, NO = ("truth", 1), ("truth", 0)


def three(content):
    """A book with this content, a cell that needs it, one that needs that, and one that needs nothing."""
    return book(sheet("bills", 2, 3, {
        (0, 0): content, (0, 1): ("=", cell("bills", 0, 0)), (0, 2): ("=", ("op", "=", cell("bills", 0, 1), number(1))),
        (1, 2): ("=", number(5)),
    }))


class ReckonerTest(unittest.TestCase):
    def tells(self, reckoner, some_book):
        """Checks that it tells all that is to be told of this book."""
        self.assertIs(reckoner.book, some_book)
        self.assertEqual(reckoner.all_values(), all_values(some_book))
        self.assertTrue(is_plain(reckoner.all_values()))
        for some in model.all_cells(some_book):
            found = reckoner.value(own(some))
            self.assertEqual(found, value_of(some_book, some))
            self.assertTrue(is_plain(found))

    def turns(self, reckoner, some_book):
        """Leads it to this book, and checks what comes."""
        told = reached(some_book, changed(reckoner.book, some_book))
        found = reckoner.turn(some_book)
        self.assertEqual(found, told)
        self.assertTrue(is_plain(found))
        self.tells(reckoner, some_book)
        return found

    def test_of_one_book(self):
        for some_book in (
            three(YES), book(("bills", (), (), ())),
            book(sheet("a", 2, 2, {}), sheet("b", 1, 1, {(0, 0): ("=", cell("b", 0, 0))})),
        ):
            self.tells(Reckoner(some_book), some_book)

    def test_a_change_and_back(self):
        first, second = three(("number", 1, 1)), three(YES)
        reckoner = Reckoner(first)
        for some_book in (second, first, second, second, first):
            same = reckoner.book is some_book
            self.assertEqual(
                self.turns(reckoner, some_book),
                () if same else (at("bills", 0, 0), at("bills", 0, 1), at("bills", 0, 2)),
            )
        self.assertEqual(reckoner.value(at("bills", 0, 2)), YES)

    def test_contents_that_go(self):
        whole = three(("number", 1, 1))
        bare = book(sheet("bills", 2, 3, {(0, 1): ("=", cell("bills", 0, 0))}))
        reckoner = Reckoner(whole)
        self.assertEqual(
            self.turns(reckoner, bare), tuple(at("bills", *place) for place in ((0, 0), (0, 1), (0, 2), (1, 2)))
        )
        self.assertEqual(reckoner.all_values(), ((at("bills", 0, 1), None),))
        self.turns(reckoner, whole)
        self.turns(reckoner, book(("notes", (), (), ())))
        self.assertEqual(reckoner.all_values(), ())
        self.turns(reckoner, whole)

    def test_rows_that_move_and_go(self):
        cells = tuple(
            (ROWS[row], COLUMNS[0], ("number", 10 ** row, 1)) for row in range(4)
        ) + ((ROWS[4], COLUMNS[0], ("=", call("sum", area("bills", 0, 0, 2, 0)))),)
        reckoner = Reckoner(book(("bills", ROWS[:5], COLUMNS[:1], cells)))
        for places, value in (
            ((0, 1, 3, 2, 4), 1111), ((0, 1, 2, 3, 4), 111), ((3, 0, 1, 2, 4), 111), ((2, 1, 0, 3, 4), 111),
            ((0, 2, 1, 3, 4), 101), ((1, 0, 2, 3, 4), 101),
        ):
            some_book = book(("bills", tuple(ROWS[place] for place in places), COLUMNS[:1], cells))
            self.turns(reckoner, some_book)
            self.assertEqual(reckoner.value(at("bills", 4, 0)), ("number", value, 1))
        self.turns(reckoner, book(("bills", ROWS[1:5], COLUMNS[:1], cells[1:])))
        self.assertEqual(reckoner.value(at("bills", 4, 0)), ("error", "gone"))
        self.turns(reckoner, book(("bills", ROWS[:5], COLUMNS[:1], cells)))

    def test_rings_that_close_and_open(self):
        def ring(closed):
            last = ("=", cell("bills", 0, 0)) if closed else ("number", 3, 1)
            return book(sheet("bills", 1, 4, {
                (0, 0): ("=", cell("bills", 0, 1)), (0, 1): ("=", cell("bills", 0, 2)), (0, 2): last,
                (0, 3): ("=", call("count", cell("bills", 0, 1))),
            }))
        reckoner = Reckoner(ring(False))
        for closed, value in ((True, ("error", "ring")), (False, ("number", 3, 1)), (True, ("error", "ring"))):
            self.assertEqual(len(self.turns(reckoner, ring(closed))), 4)
            self.assertEqual(reckoner.value(at("bills", 0, 0)), value)

    def test_an_equal_book_of_its_own(self):
        first, second = three(YES), three(YES)
        reckoner = Reckoner(first)
        self.assertEqual(reckoner.turn(second), ())
        self.assertIs(reckoner.book, second)

    def test_books_that_differ_in_other_parts(self):
        whole = sheet("bills", 1, 2, {(0, 0): ("=", cell("bills", 0, 1)), (0, 1): YES})
        reckoner = Reckoner(book(whole))
        self.assertEqual(self.turns(reckoner, book(whole, owner="bob", rights=(("all", "bills", None, "none"),))), ())

    def test_refuses(self):
        some_book = book(
            sheet("bills", 12, 3, {(0, 0): YES, (1, 1): ("=", cell("bills", 0, 0))}), ("notes", ROWS[:2], (), ())
        )
        reckoner = Reckoner(some_book)
        for wrong in [*NO_CELLS, *ODD_THINGS]:
            with self.assertRaises(InvalidCell) as caught:
                reckoner.value(wrong)
            self.assertIs(caught.exception.value, wrong)
        # What was refused changed nothing.
        self.tells(reckoner, some_book)

    def test_cells_of_the_book_before_are_refused(self):
        reckoner = Reckoner(three(YES))
        self.assertEqual(reckoner.value(at("bills", 1, 2)), ("number", 5, 1))
        self.turns(reckoner, book(sheet("bills", 1, 3, {(0, 0): NO}), sheet("notes", 2, 3, {(1, 2): NO})))
        with self.assertRaises(InvalidCell):
            reckoner.value(at("bills", 1, 2))
        self.assertEqual(reckoner.value(at("notes", 1, 2)), NO)
        self.assertIs(reckoner.value(at("bills", 0, 2)), None)
        self.turns(reckoner, three(NO))
        with self.assertRaises(InvalidCell):
            reckoner.value(at("notes", 1, 2))

    def test_by_name(self):
        some_book = three(YES)
        reckoner = Reckoner(book=some_book)
        self.assertEqual(reckoner.value(cell=at("bills", 0, 1)), YES)
        self.assertEqual(reckoner.turn(book=three(NO)), tuple(at("bills", 0, place) for place in range(3)))

    def test_equal_to_itself_alone_and_not_iterable(self):
        some_book = three(YES)
        reckoner, other = Reckoner(some_book), Reckoner(some_book)
        self.assertTrue(reckoner == reckoner)
        self.assertFalse(reckoner == other)
        self.assertFalse(reckoner == some_book)
        self.assertFalse(some_book == reckoner)
        for thing in [*ODD_THINGS, None]:
            self.assertFalse(reckoner == thing)
        for use in (iter, list, len, lambda thing: 1 in thing, lambda thing: thing[0]):
            with self.assertRaises(TypeError):
                use(reckoner)

    def test_two_reckoners_of_one_book_go_their_own_ways(self):
        first, second = three(YES), three(NO)
        one, other = Reckoner(first), Reckoner(first)
        self.turns(one, second)
        self.tells(other, first)
        self.turns(other, second)
        self.turns(one, first)
        self.tells(other, second)

    def test_led_through_many_books(self):
        dice = random.Random(190)
        for _ in range(40):
            books = [chance.some_book(dice)]
            reckoner = Reckoner(books[0])
            for _ in range(12):
                # Now and then back to an older one, or to one that has nothing in common with it.
                kind = dice.random()
                if kind < 0.2:
                    some_book = dice.choice(books)
                elif kind < 0.3:
                    some_book = chance.some_book(dice)
                else:
                    some_book = chance.some_change(dice, reckoner.book)
                books.append(some_book)
                before = reckoner.book
                anew = self.turns(reckoner, some_book)
                self.assertEqual(list(anew), model.reached(some_book, model.changed(before, some_book)))
                values = model.values_of(some_book)
                for some in values:
                    self.assertEqual(reckoner.value(some), values[some])


if __name__ == "__main__":
    unittest.main()
