"""[27]: copies that do, undo, redo and hear."""

import random
import unittest

from ledgerloom.books import Book
from ledgerloom.copies import Copy, book_of, off_of, void_of
from ledgerloom.deeds import done
from ledgerloom.errors import BookError, InvalidDeed, InvalidName, InvalidNumber, InvalidStamp, Undefined
from tests import chance, chance_deeds, model_deeds
from tests.helper import COLUMNS, ODD_THINGS, ROWS, OwnText, at, book, is_plain, number, own, sheet, truth
from tests.test_done import NO_STAMPS
from tests.test_is_deed import DEEDS
from tests.test_rights import NO_PERSONS
from tests.test_steps import n, put, redo, undo

BOOK = book(
    sheet("bills", 2, 2, {}), views=(("few", "bills", ("op", "=", ("here", COLUMNS[0]), number(1)), ()),),
    rights=(("all", "bills", None, "write"),),
)


def setting(value, row=0, column=0):
    """The deed that sets a cell to a number."""
    return ("set", *at("bills", row, column), n(value))


def state(copy):
    """All that is to be seen of a copy."""
    return (copy.person, copy.life, copy.steps, copy.book, copy.void, copy.off)


class CopyTest(unittest.TestCase):
    def tells(self, copy, first=BOOK):
        """Checks what the copy tells against what its steps tell."""
        self.assertEqual(list(copy.steps), sorted(copy.steps, key=lambda step: step[0]))
        found, void, off = model_deeds.outcome_of(first, copy.steps)
        self.assertEqual((copy.book, copy.void, copy.off), (found, void, off))
        if len(copy.steps) <= 120:
            self.assertEqual(copy.book, book_of(first, copy.steps))
            self.assertEqual((copy.void, copy.off), (void_of(first, copy.steps), off_of(first, copy.steps)))
        self.assertIs(type(copy.book), Book)
        self.assertTrue(is_plain((copy.person, copy.life, copy.steps, copy.void, copy.off)))

    def refuses(self, kind, wrong, call, copy):
        before = state(copy)
        with self.assertRaises(kind) as caught:
            call(wrong)
        self.assertIs(caught.exception.value, wrong)
        self.assertEqual(state(copy), before)

    def test_a_new_copy(self):
        for person, life in (("ann", 0), ("bob", 99), (OwnText("eve"), own(7))):
            copy = Copy(person, life, BOOK)
            self.assertEqual(state(copy), (person, life, (), BOOK, (), ()))
            self.tells(copy)
        self.assertEqual(state(Copy(book=BOOK, life=1, person="ann")), ("ann", 1, (), BOOK, (), ()))

    def test_refuses_persons_ahead_of_lives(self):
        odd = [thing for thing in ODD_THINGS if thing not in ("ann", "value")]
        for person in ["all", OwnText("all"), *NO_PERSONS, *odd]:
            for life in (0, 100, None):
                with self.assertRaises(InvalidName) as caught:
                    Copy(person, life, BOOK)
                self.assertIs(caught.exception.value, person)
        for life in [-1, 100, 101, 10 ** 12, True, False, None, "0", (), [0], "ann", BOOK]:
            with self.assertRaises(InvalidNumber) as caught:
                Copy("ann", life, BOOK)
            self.assertIs(caught.exception.value, life)

    def test_do(self):
        copy = Copy("bob", 2, BOOK)
        for clock, deed in enumerate((setting(1), setting(2, 1, 1), ("rows", "bills", None, 2), ("sheet", "notes")), 1):
            step = copy.do(own(deed))
            self.assertEqual(step, ((clock, "bob", 2), deed))
            self.assertTrue(is_plain(step))
            self.assertEqual(copy.steps[-1], step)
            self.assertEqual(len(copy.steps), clock)
            self.tells(copy)
        self.assertEqual(copy.void, ((4, "bob", 2),))
        self.assertEqual(copy.book.sheets[0][1], ((3, "bob", 2, 0), (3, "bob", 2, 1), *ROWS[:2]))

    def test_each_deed_may_be_done(self):
        for deed in DEEDS:
            for person in ("ann", "bob"):
                copy = Copy(person, 0, BOOK)
                step = copy.do(deed=deed)
                self.tells(copy)
                if deed[0] != "put":
                    self.assertEqual(step, ((1, person, 0), deed))

    def test_clocks_are_by_one_greater_than_all_that_are_known(self):
        copy = Copy("bob", 0, BOOK)
        self.assertEqual(copy.do(setting(1))[0], (1, "bob", 0))
        copy.hear((put(7, 1, "ann"),))
        self.assertEqual(copy.do(setting(1))[0], (8, "bob", 0))
        copy.hear((put(3, 1, "eve", life=5), put(900000, 1, "ann")))
        self.assertEqual(copy.do(setting(2))[0], (900001, "bob", 0))
        self.assertEqual(copy.undo((1, "bob", 0))[0], (900002, "bob", 0))
        self.assertEqual(copy.redo((1, "bob", 0))[0], (900003, "bob", 0))
        self.tells(copy)

    def test_a_put_that_can_be_done_is_kept_as_the_set(self):
        copy = Copy("bob", 0, BOOK)
        deed = ("put", "few", 0, COLUMNS[1], n(5))
        self.assertEqual(copy.do(deed), ((1, "bob", 0), deed))
        copy.do(setting(1, 1, 0))
        for content in (n(5), ("=", number(5))):
            self.assertEqual(copy.do(own(deed[:4] + (content,)))[1], ("set", *at("bills", 1, 1), content))
            self.assertEqual(copy.steps[-1][1], ("set", *at("bills", 1, 1), content))
            self.tells(copy)
        bad = [("put", "few", 1, COLUMNS[1], n(5)), ("put", "few", 0, COLUMNS[2], n(5)),
            ("put", "more", 0, COLUMNS[1], n(5))]
        for deed in bad:
            self.assertEqual(copy.do(deed)[1], deed)
            self.assertEqual(copy.void[-1], copy.steps[-1][0])
            self.tells(copy)

    def test_a_put_by_one_who_may_not_write_is_kept_as_it_is(self):
        rights = (("all", "bills", None, "read"), ("bob", "bills", COLUMNS[1], "write"))
        some_book = Book("ann", sheets_of(BOOK, (0, 0), n(1)), BOOK.views, (), rights)
        for person, column, may in (("bob", 1, True), ("bob", 0, False), ("eve", 1, False), ("ann", 0, True)):
            copy = Copy(person, 0, some_book)
            deed = ("put", "few", 0, COLUMNS[column], n(9))
            kept = ("set", *at("bills", 0, column), n(9)) if may else deed
            self.assertEqual(copy.do(deed)[1], kept)
            self.assertEqual(len(copy.void), 0 if may else 1)
            self.tells(copy, some_book)

    def test_a_put_stays_the_set_whatever_is_heard(self):
        copy = Copy("bob", 0, BOOK)
        copy.hear((put(5, 1, "ann"),))
        self.assertEqual(copy.do(("put", "few", 0, COLUMNS[1], n(3)))[1], setting(3, 0, 1))
        copy.hear((put(4, 1, "ann", (1, 0)), ((6, "ann", 0), ("moverow", "bills", ROWS[1], None))))
        self.assertEqual(copy.book.sheets[0][3][1], (ROWS[0], COLUMNS[1], n(3)))
        self.tells(copy)

    def test_refuses_what_is_no_deed(self):
        copy = Copy("bob", 0, BOOK)
        copy.do(setting(1))
        for deed in [None, (), ("undo", (1, "bob", 0)), ("redo", (1, "bob", 0)), list(setting(1)), copy.steps[0],
            *ODD_THINGS,
                     ("rows", "bills", None, 6), ("set", *at("bills", 0, 0), None)]:
            self.refuses(InvalidDeed, deed, copy.do, copy)

    def test_undo_and_redo(self):
        copy = Copy("bob", 1, BOOK)
        one = copy.do(setting(1))[0]
        two = copy.do(setting(2))[0]
        for call, stamp, off, content in (
            (copy.undo, one, (one,), n(2)), (copy.undo, two, (one, two), None), (copy.redo, one, (two,), n(1)),
            (copy.undo, one, (one, two), None), (copy.redo, two, (one,), n(2)), (copy.redo, one, (), n(2)),
        ):
            clock = len(copy.steps) + 1
            step = call(own(stamp))
            self.assertEqual(step, ((clock, "bob", 1), (call.__name__, stamp)))
            self.assertTrue(is_plain(step))
            self.assertEqual(copy.off, off)
            self.assertEqual([cell[2] for cell in copy.book.sheets[0][3]], [content] if content else [])
            self.tells(copy)

    def test_undo_and_redo_by_name(self):
        copy = Copy("bob", 0, BOOK)
        copy.do(setting(1))
        self.assertEqual(copy.undo(stamp=(1, "bob", 0))[1], ("undo", (1, "bob", 0)))
        self.assertEqual(copy.redo(stamp=(1, "bob", 0))[1], ("redo", (1, "bob", 0)))
        self.assertEqual(copy.hear(steps=()), 0)

    def test_undo_of_void_steps_and_of_steps_of_another_life(self):
        copy = Copy("bob", 3, BOOK)
        bad = copy.do(("sheet", "notes"))[0]
        self.assertEqual(copy.void, (bad,))
        copy.undo(bad)
        self.assertEqual((copy.void, copy.off), ((), (bad,)))
        copy.redo(bad)
        self.assertEqual((copy.void, copy.off), ((bad,), ()))
        copy.hear((put(9, 9, "bob", life=2),))
        self.assertEqual(copy.undo((9, "bob", 2)), ((10, "bob", 3), ("undo", (9, "bob", 2))))
        self.assertEqual(copy.off, ((9, "bob", 2),))
        self.tells(copy)

    def test_refuses_what_is_not_to_be_undone_or_redone(self):
        copy = Copy("bob", 0, BOOK)
        on, off, undone = copy.do(setting(1))[0], copy.do(setting(2))[0], copy.undo((2, "bob", 0))[0]
        copy.hear((
            put(4, 1, "ann"), put(5, 1, "bob", life=1), undo(6, 5, "bob", life=1, of_life=1),
            redo(7, 5, "bob", life=1, of_life=1), put(8, 1, "eve"), undo(9, 8, "eve"),
        ))
        again = (7, "bob", 1)
        self.assertEqual(copy.off, (off, (8, "eve", 0)))
        wrong = [
            undone, again, (8, "eve", 0), (9, "eve", 0), (6, "bob", 1), (4, "ann", 0), (8, "bob", 0), (1, "bob", 1),
            (1, "ann", 0), (99, "eve", 0), *NO_STAMPS,
            copy.steps[0], (True, "bob", 0), (1, "bob", False), [1, "bob", 0],
        ]
        for stamp in [off, *wrong]:
            self.refuses(InvalidStamp, stamp, copy.undo, copy)
        for stamp in [on, (5, "bob", 1), *wrong]:
            self.refuses(InvalidStamp, stamp, copy.redo, copy)
        copy.redo(off)
        self.refuses(InvalidStamp, off, copy.redo, copy)
        copy.undo(on)
        self.refuses(InvalidStamp, on, copy.undo, copy)

    def test_hear(self):
        copy = Copy("bob", 0, BOOK)
        steps = (put(3, 3, "ann"), put(1, 1, "eve"), undo(4, 3, "ann"), ((2, "eve", 0), ("sheet", "notes")))
        self.assertEqual(copy.hear(own(steps[:2])), 2)
        self.assertEqual(copy.steps, (steps[1], steps[0]))
        self.tells(copy)
        for heard, many in (
            ((), 0), (steps[:2], 0), (steps[1:3], 1), (steps, 1), (steps * 3, 0), (copy.steps, 0),
            (tuple(reversed(steps)), 0)
        ):
            self.assertEqual(copy.hear(heard), many)
            self.tells(copy)
        self.assertEqual(copy.steps, tuple(sorted(steps)))
        fresh = put(9, 9, "eve")
        self.assertEqual(copy.hear((fresh, fresh, steps[0], fresh)), 1)
        self.assertIs(type(copy.hear(())), int)

    def test_own_steps_may_be_heard(self):
        copy, other = Copy("bob", 0, BOOK), Copy("bob", 1, BOOK)
        step = copy.do(setting(1))
        self.assertEqual(other.hear((step,)), 1)
        self.assertEqual(other.undo(step[0])[0], (2, "bob", 1))
        self.assertEqual(copy.hear(other.steps), 1)
        self.assertEqual(state(copy)[2:], state(other)[2:])
        self.assertEqual(copy.redo(step[0])[0], (3, "bob", 0))

    def test_refuses_stamps_with_another_deed(self):
        copy = Copy("bob", 0, BOOK)
        copy.do(setting(1))
        copy.hear((put(5, 5, "ann"), undo(6, 5, "ann")))
        for steps in (
            (put(1, 2, "bob"),), (put(5, 6, "ann"),), (put(9, 9), put(5, 6, "ann")), (put(9, 9), put(9, 8)),
            (undo(6, 4, "ann"),), (redo(6, 5, "ann"),), (put(9, 9), put(8, 8), undo(9, 1)),
            (put(5, 5, "ann"), undo(5, 1, "ann")),
            (((5, "ann", 0), ("clear", *at("bills", 0, 0))),),
        ):
            self.refuses(InvalidStamp, steps, copy.hear, copy)

    def test_refuses_what_is_no_steps(self):
        copy = Copy("bob", 0, BOOK)
        copy.do(setting(1))
        one = put(5, 5)
        for steps in [None, [], [one], one, ((5, "ann", 0),), (one, None), (None, one), (list(one),),
            ((one[1], one[0]),),
                      ((one[0], ("undo", None)),), (one[0],), (one, (one[0], None)), "steps", {1: one}, *ODD_THINGS]:
            if steps != ():
                self.refuses(InvalidStamp, steps, copy.hear, copy)
        for stamp in NO_STAMPS:
            self.refuses(InvalidStamp, (one, (stamp, one[1])), copy.hear, copy)
            self.refuses(InvalidStamp, ((one[0], ("undo", stamp)),), copy.hear, copy)

    def test_copies_keep_apart_and_are_equal_to_themselves_alone(self):
        one, other = Copy("bob", 0, BOOK), Copy("bob", 0, BOOK)
        self.assertTrue(one == one)
        self.assertFalse(one == other or one != one)
        one.do(setting(1))
        self.assertEqual(state(other), ("bob", 0, (), BOOK, (), ()))
        self.assertEqual(state(Copy("bob", 0, BOOK)), state(other))
        for thing in (one, other):
            with self.assertRaises(TypeError):
                iter(thing)

    def test_steps_that_were_heard_and_then_turn_what_can_be_done(self):
        copy = Copy("ann", 0, BOOK)
        copy.hear((((5, "eve", 0), ("set", "bills", (2, "bob", 0, 0), COLUMNS[0], n(5))),))
        self.assertEqual(copy.void, ((5, "eve", 0),))
        copy.hear((((2, "bob", 0), ("rows", "bills", None, 1)),))
        self.assertEqual(copy.void, ())
        copy.hear((((1, "ann", 0), ("rule", ("eve", "bills", COLUMNS[0], "read"))),))
        self.assertEqual(copy.void, ((5, "eve", 0),))
        copy.undo((1, "ann", 0))
        self.assertEqual((copy.void, copy.off), ((), ((1, "ann", 0),)))
        self.tells(copy)


def sheets_of(some_book, place, content):
    """The sheets of a book with one more content in the first."""
    return done(some_book, (1, some_book.owner, 0), ("set", *at("bills", *place), content)).sheets


class ManyCopiesTest(unittest.TestCase):
    def lead(self, dice, copies, calls):
        """Leads copies through calls that chance makes."""
        for _ in range(calls):
            copy = dice.choice(copies)
            kind = dice.choice(["do", "do", "do", "undo", "redo", "hear", "hear"])
            stamps = [step[0] for step in copy.steps if step[0][1] == copy.person] + [(1, "bob", 0)]
            try:
                if kind == "do":
                    deed = chance_deeds.some_deed(dice, copy.book)
                    expected = self.kept(copy, deed)
                    self.assertEqual(copy.do(deed)[1], expected)
                elif kind == "undo":
                    copy.undo(dice.choice(stamps))
                elif kind == "redo":
                    copy.redo(dice.choice([*copy.off, *stamps]))
                else:
                    self.hears(copy, self.piece_of(dice, dice.choice(copies).steps))
            except InvalidStamp:
                self.assertNotIn(kind, ("do", "hear"))

    def kept(self, copy, deed):
        """The deed as the copy has to keep it."""
        stamp = (max([step[0][0] for step in copy.steps], default=0) + 1, copy.person, copy.life)
        try:
            made = done(copy.book, stamp, deed)
        except Undefined:
            return deed
        if deed[0] != "put":
            return deed
        sheet_name = [view[1] for view in copy.book.views if view[0] == deed[1]][0]
        rows = [part[1] for part in made.sheets if part[0] == sheet_name][0]
        sets = [("set", sheet_name, row, deed[3], deed[4]) for row in rows]
        return [one for one in sets if model_deeds.view_row(copy.book, copy.person, deed) == one[2]][0]

    def hears(self, copy, steps):
        known = len(copy.steps)
        self.assertEqual(copy.hear(steps), len(copy.steps) - known)

    def piece_of(self, dice, steps):
        """Some of the steps, some of them twice, in any order."""
        return tuple(dice.choices(steps, k=dice.randint(0, len(steps)))) if steps else ()

    def test_copies_that_know_the_same_steps_have_the_same_book(self):
        dice = random.Random(27)
        many_void = many_off = many = 0
        for _ in range(60):
            first = chance.some_shared_book(dice)
            copies = [Copy(person, life, first) for person, life in (("ann", 0), ("bob", 0), ("eve", 1), ("bob", 1))]
            self.lead(dice, copies, 40)
            for copy in copies:
                self.assertEqual((copy.book, copy.void, copy.off), model_deeds.outcome_of(first, copy.steps))
            everything = [step for copy in copies for step in copy.steps]
            for copy in copies:
                dice.shuffle(everything)
                cut = dice.randint(0, len(everything))
                for piece in (everything[:cut], everything[cut:], everything):
                    copy.hear(tuple(piece))
            told = model_deeds.outcome_of(first, copies[0].steps)
            for copy in copies:
                self.assertEqual((copy.steps, copy.book, copy.void, copy.off), (copies[0].steps, *told))
            many_void, many_off, many = many_void + len(told[1]), many_off + len(told[2]), many + len(copies[0].steps)
        self.assertGreater(many_off, 50)
        self.assertGreater(many - many_void - many_off, 200)

    def test_no_call_that_raises_changes_anything(self):
        dice = random.Random(270)
        copy = Copy("bob", 0, BOOK)
        copy.hear((put(3, 3, "ann"), undo(4, 3, "ann"), put(5, 5, "bob", life=1)))
        raised = 0
        for _ in range(300):
            before = state(copy)
            call = dice.choice([copy.do, copy.undo, copy.redo, copy.hear])
            stamp = chance_deeds.some_stamp(dice, 10)
            try:
                call(dice.choice([stamp, chance_deeds.some_deed(dice, copy.book),
                    (put(*stamp[:1], 7, *stamp[1:2]),), None]))
            except BookError:
                raised += 1
                self.assertEqual(state(copy), before)
            if len(copy.steps) > 50:
                copy = Copy("bob", 0, BOOK)
        self.assertGreater(raised, 100)

    def test_a_hundred_and_twenty_steps(self):
        copy = Copy("bob", 0, BOOK)
        copy.hear(tuple(put(k + 1, k, "ann", (k % 2, 0)) for k in range(60)))
        for k in range(58):
            copy.do(setting(k, k % 2, 1))
        self.assertEqual(copy.undo((61, "bob", 0))[0][0], 119)
        self.assertEqual(copy.redo((61, "bob", 0))[0][0], 120)
        self.assertEqual(len(copy.steps), 120)
        self.assertEqual((copy.book, copy.void, copy.off), model_deeds.outcome_of(BOOK, copy.steps))

    def test_views_are_asked_when_a_put_is_heard(self):
        copy = Copy("ann", 0, BOOK)
        deed = ("put", "few", 0, COLUMNS[1], n(4))
        self.assertEqual(copy.hear((((9, "bob", 0), deed),)), 1)
        self.assertEqual(copy.steps, (((9, "bob", 0), deed),))
        self.assertEqual(copy.void, ((9, "bob", 0),))
        copy.hear((put(2, 1, "eve", (1, 0)),))
        self.assertEqual((copy.void, copy.book.sheets[0][3][1]), ((), (ROWS[1], COLUMNS[1], n(4))))
        self.assertEqual(copy.steps[1], ((9, "bob", 0), deed))
        copy.hear((((1, "ann", 0), ("view", ("few", "bills", truth(0), ()))),))
        self.assertEqual(copy.void, ((9, "bob", 0),))


if __name__ == "__main__":
    unittest.main()
