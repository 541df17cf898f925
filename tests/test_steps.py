"""[26]: what comes of a book by steps, which are void, and which are off."""

import random
import unittest

from ledgerloom.books import Book
from ledgerloom.copies import book_of, off_of, void_of
from ledgerloom.errors import InvalidStamp
from tests import chance, chance_deeds, model_deeds
from tests.helper import COLUMNS, ODD_THINGS, ROWS, at, book, is_plain, own, sheet, truth
from tests.test_done import NO_STAMPS
from tests.test_is_deed import DEEDS

BOOK = book(sheet("bills", 2, 2, {}), rights=(("all", "bills", None, "write"),))


def n(p):
    """The number value of an integer."""
    return ("number", p, 1)


def put(clock, value, person="ann", place=(0, 0), life=0):
    """A step that sets a cell to a number."""
    return ((clock, person, life), ("set", *at("bills", *place), n(value)))


def undo(clock, of, person="ann", life=0, of_person=None, of_life=0):
    """A step that undoes the one of this clock."""
    return ((clock, person, life), ("undo", (of, of_person or person, of_life)))


def redo(clock, of, person="ann", life=0, of_person=None, of_life=0):
    """A step that does the one of this clock again."""
    return ((clock, person, life), ("redo", (of, of_person or person, of_life)))


def contents(some_book):
    """The contents of the first sheet."""
    return [content for _, _, content in some_book.sheets[0][3]]


class StepsTest(unittest.TestCase):
    def makes(self, steps, some_book=BOOK):
        """The book, the void stamps and those that are off."""
        for same in (steps, own(steps)):
            found = (book_of(some_book, same), void_of(some_book, same), off_of(some_book, same))
            self.assertEqual(found, model_deeds.outcome_of(some_book, steps))
            self.assertIs(type(found[0]), Book)
            self.assertTrue(is_plain(found[1:]) and is_plain(found[0].sheets))
        return found

    def is_off(self, steps, *off):
        """Just the steps at these places are off; the contents are those of the others."""
        _, _, found = self.makes(steps)
        self.assertEqual(found, tuple(steps[place][0] for place in off))

    def test_no_steps(self):
        self.assertEqual(self.makes(()), (BOOK, (), ()))

    def test_deeds_in_order(self):
        steps = (put(1, 1), put(2, 2), put(3, 3, place=(1, 1)))
        found, void, off = self.makes(steps)
        self.assertEqual(contents(found), [n(2), n(3)])
        self.assertEqual((void, off), ((), ()))

    def test_the_order_is_that_of_stamps(self):
        for first, last in (
            (put(1, 1, "eve", life=9), put(2, 2, "ann")), (put(5, 1, "ann", life=9), put(5, 2, "bob")),
            (put(5, 1, "ann", life=1), put(5, 2, "ann", life=2)), (put(9, 1), put(10, 2)),
        ):
            self.assertEqual(contents(self.makes((first, last))[0]), [n(2)])
            for ask in (book_of, void_of, off_of):
                self.refuses(ask, (last, first))

    def test_void_steps_are_left_out(self):
        steps = (
            ((1, "ann", 0), ("clear", *at("bills", 0, 0))), put(2, 2), ((3, "ann", 0), ("clear", *at("bills", 0, 0))),
            ((4, "ann", 0), ("clear", *at("bills", 0, 0))), ((5, "bob", 0), ("sheet", "notes")), put(6, 6, "bob"),
            ((7, "eve", 1), ("unsheet", "bills")),
        )
        found, void, off = self.makes(steps)
        self.assertEqual(contents(found), [n(6)])
        self.assertEqual((void, off), (tuple(steps[k][0] for k in (0, 3, 4, 6)), ()))

    def test_what_can_be_done_hangs_on_the_steps_ahead(self):
        rows = ((1, "bob", 0), ("rows", "bills", None, 2))
        fresh = ((2, "eve", 0), ("set", "bills", (1, "bob", 0, 1), COLUMNS[0], n(5)))
        self.assertEqual(contents(self.makes((rows, fresh))[0]), [n(5)])
        self.assertEqual(self.makes((fresh,))[1], ((2, "eve", 0),))
        late = ((3, "bob", 0), ("rows", "bills", None, 2))
        self.assertEqual(self.makes((fresh, late))[1], ((2, "eve", 0),))
        undone = undo(4, 1, "bob")
        self.assertEqual(self.makes((rows, fresh, undone))[1:], (((2, "eve", 0),), ((1, "bob", 0),)))
        self.assertEqual(self.makes((rows, fresh, undone, redo(5, 1, "bob")))[1:], ((), ()))

    def test_rights_that_come_and_go(self):
        take = ((2, "ann", 0), ("rule", ("bob", "bills", None, "read")))
        give = ((4, "ann", 0), ("unrule", 1))
        steps = (put(1, 1, "bob"), take, put(3, 3, "bob"), give, put(5, 5, "bob", (1, 1)))
        found, void, _ = self.makes(steps)
        self.assertEqual(contents(found), [n(1), n(5)])
        self.assertEqual(void, ((3, "bob", 0),))
        found, void, off = self.makes(steps + (undo(6, 2),))
        self.assertEqual(contents(found), [n(3), n(5)])
        self.assertEqual((void, off), (((4, "ann", 0),), ((2, "ann", 0),)))

    def test_undos_and_redos(self):
        one, two = put(1, 1), put(2, 2, place=(1, 1))
        for steps, off in (
            ((one, two), ()), ((one, two, undo(3, 1)), (0,)), ((one, two, undo(3, 2)), (1,)),
            ((one, two, undo(3, 1), undo(4, 2)), (0, 1)), ((one, two, undo(3, 1), redo(4, 1)), ()),
            ((one, two, undo(3, 1), redo(4, 1), undo(5, 1)), (0,)), ((one, two, redo(3, 1)), ()),
            ((one, two, undo(3, 1), undo(4, 1)), (0,)), ((one, two, redo(3, 1), undo(4, 1)), (0,)),
            ((one, two, undo(3, 1), undo(4, 1), redo(5, 1)), ()), ((one, undo(2, 1), put(3, 3)), (0,)),
        ):
            self.is_off(steps, *off)
            left = [steps[k][1][-1] for k in range(len(steps)) if k not in off and steps[k][1][0] == "set"]
            self.assertEqual(contents(self.makes(steps)[0]), left)

    def test_the_one_with_the_greatest_stamp_decides(self):
        one = put(1, 1, life=2)
        for steps, off in (
            ((one, undo(5, 1, life=0, of_life=2), redo(5, 1, life=1, of_life=2)), ()),
            ((one, redo(5, 1, life=0, of_life=2), undo(5, 1, life=1, of_life=2)), (0,)),
            ((one, undo(5, 1, life=9, of_life=2), redo(6, 1, life=0, of_life=2)), ()),
            ((one, redo(5, 1, life=9, of_life=2), undo(6, 1, life=0, of_life=2)), (0,)),
        ):
            self.is_off(steps, *off)

    def test_what_they_do_not_aim_at(self):
        one = put(1, 1, "bob")
        for step in (
            undo(2, 1, "ann", of_person="bob"), undo(2, 1, "eve", of_person="bob"), undo(2, 1, "bob", of_life=1),
            undo(2, 2, "bob"), undo(2, 3, "bob"), undo(2, 1, "bob", of_person="ann"), undo(2, 5, "bob"),
        ):
            self.is_off((one, step))
        self.is_off((one, undo(2, 1, "bob")), 0)
        self.is_off((one, undo(2, 1, "bob", life=1)), 0)
        self.is_off((put(1, 1, "bob", life=3), undo(2, 1, "bob", life=1, of_life=3)), 0)

    def test_a_lesser_clock_is_asked_for(self):
        late = put(5, 5, "bob")
        self.is_off((undo(4, 5, "bob"), late))
        self.is_off((late, undo(5, 5, "bob", life=1)))
        self.is_off((late, undo(6, 5, "bob")), 0)
        self.is_off((undo(4, 5, "bob"), late, redo(6, 5, "bob")))
        self.is_off((redo(4, 5, "bob"), late, undo(6, 5, "bob")), 1)

    def test_undos_of_undos_aim_at_nothing(self):
        one, first = put(1, 1), undo(2, 1)
        self.is_off((one, first, undo(3, 2)), 0)
        self.is_off((one, first, redo(3, 2)), 0)
        self.is_off((one, first, redo(3, 1), undo(4, 3)))
        self.is_off((undo(1, 1), undo(2, 1)))

    def test_a_void_step_may_be_off(self):
        bad = ((1, "bob", 0), ("sheet", "notes"))
        self.assertEqual(self.makes((bad,))[1:], (((1, "bob", 0),), ()))
        self.assertEqual(self.makes((bad, undo(2, 1, "bob")))[1:], ((), ((1, "bob", 0),)))
        self.assertEqual(self.makes((bad, undo(2, 1, "bob"), redo(3, 1, "bob")))[1:], (((1, "bob", 0),), ()))

    def test_undos_need_no_right(self):
        closed = ((2, "ann", 0), ("rule", ("bob", "bills", None, "none")))
        self.assertEqual(self.makes((put(1, 1, "bob"), closed, undo(3, 1, "bob")))[2], ((1, "bob", 0),))

    def test_puts_are_done_where_they_stand(self):
        view = ((1, "ann", 0), ("view", ("few", "bills", ("op", "=", ("here", COLUMNS[0]), ("value", n(1))), ())))
        put_in = ((4, "bob", 0), ("put", "few", 0, COLUMNS[1], n(7)))
        steps = (view, put(2, 1, place=(1, 0)), put(3, 2), put_in)
        self.assertEqual(contents(self.makes(steps)[0]), [n(2), n(1), n(7)])
        other = steps[:2] + (put(3, 1), put_in)
        self.assertEqual(contents(self.makes(other)[0]), [n(1), n(7), n(1)])
        self.assertEqual(self.makes((view, put_in))[1], ((4, "bob", 0),))

    def test_a_step_undone_is_as_if_it_were_not_there(self):
        dice = random.Random(9)
        for _ in range(60):
            some_book = chance.some_shared_book(dice)
            steps = chance_deeds.some_steps(dice, some_book, 20)
            found, void, off = self.makes(steps, some_book)
            less = tuple(step for step in steps if step[0] not in off)
            self.assertEqual(book_of(some_book, less), found)
            self.assertEqual(void_of(some_book, less), void)

    def test_over_steps_made_by_chance(self):
        dice = random.Random(26)
        many_void = many_off = many = 0
        for _ in range(150):
            some_book = chance.some_shared_book(dice)
            steps = chance_deeds.some_steps(dice, some_book, dice.choice([5, 40, 110]))
            _, void, off = self.makes(steps, some_book)
            many_void, many_off, many = many_void + len(void), many_off + len(off), many + len(steps)
        self.assertGreater(many_off, 100)
        self.assertGreater(many_void, 100)
        self.assertGreater(many - many_void - many_off, 500)

    def test_number_of_steps(self):
        steps = tuple(put(k + 1, k) for k in range(120))
        self.assertEqual(contents(self.makes(steps)[0]), [n(119)])
        self.makes(steps[:1])
        for ask in (book_of, void_of, off_of):
            self.refuses(ask, steps + (put(121, 1),))
            self.refuses(ask, steps * 2)
            self.refuses(ask, steps * 200)

    def refuses(self, ask, steps):
        with self.assertRaises(InvalidStamp) as caught:
            ask(BOOK, steps)
        self.assertIs(caught.exception.value, steps)

    def test_refuses_steps_out_of_order_and_twice(self):
        one, two, three = put(1, 1), put(2, 2), put(3, 3)
        for steps in (
            (two, one), (one, three, two), (one, one), (one, two, two), (one, put(1, 2)), (one, undo(1, 1)),
            (put(1, 1, "bob"), put(1, 1, "ann")), (put(1, 1, life=1), put(1, 1, life=0)),
        ):
            for ask in (book_of, void_of, off_of):
                self.refuses(ask, steps)

    def test_refuses_what_is_no_step(self):
        one = put(2, 1)
        bad = [
            None, (), one[0], one[1], one + (None,), one[:1], list(one), (one[1], one[0]), (one,),
            ((2, "all", 0), one[1]),
            (list(one[0]), one[1]), (one[0], list(one[1])), (one[0], None), (one[0], ("undo",)),
            (one[0], ("undo", None)),
            (one[0], ("undo", (1, "ann", 0), None)), (one[0], ("undo", (0, "ann", 0))),
            (one[0], ("redo", (1, "all", 0))),
            (one[0], ("Undo", (1, "ann", 0))), (one[0], ["undo", (1, "ann", 0)]), (one[0], ("undo", [1, "ann", 0])),
            (one[0], ("undo", (1, "ann", 0, 0))), (one[0], ("undo", (True, "ann", 0))), ((True, "ann", 0), one[1]),
            (one[0], ("set", *at("bills", 0, 0), None)), *ODD_THINGS,
        ]
        for thing in bad:
            for ask in (book_of, void_of, off_of):
                self.refuses(ask, (thing,))
            self.refuses(book_of, (put(1, 1), thing))
            self.refuses(void_of, (thing, put(3, 1)))
        for stamp in NO_STAMPS:
            for ask in (book_of, void_of, off_of):
                self.refuses(ask, ((stamp, one[1]),))
                self.refuses(ask, ((one[0], ("undo", stamp)),))

    def test_refuses_what_is_no_tuple(self):
        one = put(1, 1)
        for thing in [None, [], [one], one, "steps", {1: one}, *ODD_THINGS]:
            if thing != ():
                for ask in (book_of, void_of, off_of):
                    self.refuses(ask, thing)

    def test_each_deed_may_stand_in_a_step(self):
        for deed in DEEDS:
            self.makes((((1, "ann", 0), deed),))
            self.makes((((1, "bob", 99), deed), ((999999, "ann", 99), deed)))

    def test_the_book_is_not_changed(self):
        steps = (put(1, 1), ((2, "ann", 0), ("unrow", "bills", ROWS[1])), ((3, "ann", 0), ("sheet", "notes")))
        before = book(sheet("bills", 2, 2, {}), rights=BOOK.rights)
        book_of(BOOK, steps)
        self.assertEqual(BOOK, before)

    def test_by_name(self):
        view = ("few", "bills", truth(1), ())
        steps = (((1, "ann", 0), ("view", view)), ((2, "bob", 0), ("unsheet", "bills")), undo(3, 1))
        self.assertEqual(book_of(steps=steps, book=BOOK), BOOK)
        self.assertEqual(void_of(steps=steps, book=BOOK), ((2, "bob", 0),))
        self.assertEqual(off_of(steps=steps, book=BOOK), ((1, "ann", 0),))


if __name__ == "__main__":
    unittest.main()
