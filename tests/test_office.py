"""[30]: the office: copies, stores, sending, crashes."""

import unittest

from ledgerloom.copies import book_of
from ledgerloom.errors import BookError, InvalidCell, InvalidDeed, InvalidName, InvalidNumber, InvalidStamp
from ledgerloom.office import Office
from ledgerloom.stores import recovered, stored
from tests.helper import COLUMNS, ODD_THINGS, ROWS, OwnText, at, book, is_plain, number, own, sheet
from tests.model_office import record_of, store_of
from tests.test_done import NO_STAMPS
from tests.test_rights import NO_PERSONS
from tests.test_steps import n

BOOK = book(
    sheet("bills", 2, 2, {}), views=(("few", "bills", ("op", "=", ("here", COLUMNS[0]), number(1)), ()),),
    rights=(("all", "bills", None, "write"),),
)
PEOPLE = ("ann", "bob", "eve")
NOBODY = ["dan", "al", "all", "annn", "an", OwnText("all"), "Ann", *NO_PERSONS,
    *[thing for thing in ODD_THINGS if thing != "ann"]]
CELL = at("bills", 0, 0)


def setting(value, row=0, column=0):
    """The deed that sets a cell to a number."""
    return ("set", *at("bills", row, column), n(value))


def state(office):
    """All that is to be seen of an office without changing it."""
    return (
        office.people,
        [(office.steps_of(person), office.book_of(person), office.store_of(person), office.watched(person))
         for person in office.people],
    )


class OfficeTest(unittest.TestCase):
    def refuses(self, kind, wrong, office, call, *arguments):
        before = state(office)
        with self.assertRaises(kind) as caught:
            getattr(office, call)(*arguments)
        self.assertIs(caught.exception.value, wrong)
        self.assertEqual(state(office), before)

    def holds(self, office, person, steps):
        """The person knows just these steps; their store is one of each once."""
        self.assertEqual(office.steps_of(person), steps)
        self.assertEqual(office.book_of(person), book_of(BOOK, steps))
        found, used = recovered(office.store_of(person))
        self.assertEqual(used, len(office.store_of(person)))
        self.assertEqual(tuple(sorted(found)), tuple(sorted(steps)))
        self.assertTrue(is_plain((office.steps_of(person), office.store_of(person), office.people)))

    def test_offices_of_one_to_four_people(self):
        for people in (("ann",), ("bob",), PEOPLE, ("a", "b", "c", "d"), ("abcdefgh", "z")):
            for same in (people, own(people)):
                office = Office(BOOK, same)
                self.assertEqual(office.people, people)
                self.assertTrue(is_plain(office.people))
                for person in people:
                    self.holds(office, person, ())
                    self.assertEqual(office.store_of(person), ())
                    self.assertEqual(office.book_of(person), BOOK)
                    self.assertEqual(office.watched(person), ())
                    self.assertEqual(office.news(person), ())
        self.assertEqual(Office(people=PEOPLE, book=BOOK).people, PEOPLE)

    def test_refuses_people(self):
        for people in [
            (), ("a", "b", "c", "d", "e"), ("b", "a"), ("a", "a"), ("a", "b", "b"), ("all",), ("al", "all"),
            ("a", "all", "b"),
            ("ann", None), (None,), ("Ann",), ("",), ("ann", 1), (1,), (True,), "ann", None, ["ann"],
            ["ann", "bob"], ("abcdefghi",),
            ("ann", ("bob",)), {"ann": 1}, b"ann", (b"ann",), ("ann", "bob", "eve", "dan"),
            *[thing for thing in ODD_THINGS if thing not in (("number",), ("value",))],
        ]:
            with self.assertRaises(InvalidName) as caught:
                Office(BOOK, people)
            self.assertIs(caught.exception.value, people)

    def test_do_undo_and_redo(self):
        office = Office(BOOK, PEOPLE)
        steps = []
        for call, argument, deed in (
            ("do", setting(1), setting(1)), ("do", ("put", "few", 0, COLUMNS[1], n(5)), setting(5, 0, 1)),
            ("undo", (1, "bob", 0), ("undo", (1, "bob", 0))), ("redo", (1, "bob", 0), ("redo", (1, "bob", 0))),
            ("undo", (2, "bob", 0), ("undo", (2, "bob", 0))), ("do", ("sheet", "notes"), ("sheet", "notes")),
            ("do", ("put", "few", 9, COLUMNS[1], n(5)), ("put", "few", 9, COLUMNS[1], n(5))),
        ):
            step = getattr(office, call)(own("bob"), own(argument))
            self.assertEqual(step, ((len(steps) + 1, "bob", 0), deed))
            self.assertTrue(is_plain(step))
            steps.append(step)
            self.holds(office, "bob", tuple(steps))
            self.assertEqual(office.store_of("bob"), store_of(steps))
        for person in ("ann", "eve"):
            self.holds(office, person, ())

    def test_by_name(self):
        office = Office(BOOK, PEOPLE)
        step = office.do(deed=setting(1), person="ann")
        self.assertEqual(office.undo(stamp=step[0], person="ann")[1], ("undo", step[0]))
        self.assertEqual(office.redo(stamp=step[0], person="ann")[1], ("redo", step[0]))
        self.assertEqual(office.send(other="bob", person="ann"), 3)
        self.assertEqual(len(office.steps_of(person="bob")), 3)
        self.assertEqual(office.book_of(person="bob"), office.book_of(person="ann"))
        self.assertEqual(office.crash(many=0, person="bob"), 0)
        self.assertIsNone(office.tidy(person="ann"))
        self.assertEqual(len(office.store_of(person="bob")), 0)
        self.assertEqual(office.see(cell=CELL, person="ann")[0], "clear")
        self.assertIsNone(office.watch(cell=CELL, person="ann"))
        self.assertEqual(office.watched(person="ann"), office.news(person="ann"))

    def test_send(self):
        office = Office(BOOK, PEOPLE)
        one, two = office.do("ann", setting(1)), office.do("bob", setting(2, 1, 1))
        self.assertEqual(office.send("ann", "bob"), 1)
        self.assertEqual(office.store_of("bob"), store_of([two, one]))
        self.holds(office, "bob", (one, two))
        self.holds(office, "ann", (one,))
        self.assertEqual(office.send("ann", "bob"), 0)
        self.assertEqual(office.store_of("bob"), store_of([two, one]))
        three, four = office.do("bob", setting(3)), office.undo("bob", two[0])
        self.assertEqual((three[0], four[0]), ((2, "bob", 0), (3, "bob", 0)))
        self.assertEqual(office.send(own("bob"), own("ann")), 3)
        # Behind the store, those that are new ascending by their stamps.
        self.assertEqual(office.store_of("ann"), store_of([one, two, three, four]))
        self.assertEqual(office.do("eve", setting(9))[0], (1, "eve", 0))
        self.assertEqual(office.send("eve", "ann"), 1)
        self.assertEqual(office.send("ann", "eve"), 4)
        self.assertEqual(office.store_of("eve")[len(store_of([((1, "eve", 0), setting(9))])):],
            store_of([one, two, three, four]))
        self.assertEqual(office.book_of("ann"), office.book_of("eve"))
        self.assertIs(type(office.send("ann", "eve")), int)

    def test_send_to_oneself_and_of_nothing(self):
        office = Office(BOOK, PEOPLE)
        self.assertEqual(office.send("ann", "ann"), 0)
        self.assertEqual(office.send("ann", "bob"), 0)
        step = office.do("ann", setting(1))
        before = state(office)
        self.assertEqual(office.send("ann", "ann"), 0)
        self.assertEqual(office.send("bob", "ann"), 0)
        self.assertEqual(state(office), before)
        self.assertEqual(office.store_of("ann"), record_of(step))

    def led(self):
        """An office with some steps; bob's store is out of order."""
        office = Office(BOOK, PEOPLE)
        office.do("bob", setting(1))
        office.do("bob", setting(2, 1, 1))
        office.do("ann", setting(3, 1, 0))
        office.undo("bob", (1, "bob", 0))
        office.send("ann", "bob")
        office.do("bob", setting(4, 0, 1))
        return office

    def test_crash_at_every_number_of_bytes(self):
        kept = recovered(self.led().store_of("bob"))[0]
        self.assertEqual(len(kept), 5)
        ends = [len(store_of(kept[:many])) for many in range(6)]
        for cut in range(ends[-1] + 1):
            office = self.led()
            many = max(k for k, end in enumerate(ends) if end <= cut)
            self.assertEqual(office.crash("bob", cut), many)
            self.assertEqual(office.store_of("bob"), store_of(kept[:many]))
            self.holds(office, "bob", tuple(sorted(kept[:many])))
            self.assertEqual(state(office)[1][0], state(self.led())[1][0])
        office = self.led()
        for wrong in (ends[-1] + 1, ends[-1] + 2, 10 ** 12):
            self.refuses(InvalidNumber, wrong, office, "crash", "bob", wrong)
        self.assertEqual(office.crash("bob", own(ends[-1])), 5)

    def test_life_is_by_one_greater_behind_a_crash_and_no_stamp_comes_twice(self):
        office = self.led()
        self.assertEqual(office.crash("bob", 0), 0)
        self.assertEqual(office.do("bob", setting(7))[0], (1, "bob", 1))
        self.assertEqual(office.crash("bob", len(office.store_of("bob"))), 1)
        self.assertEqual(office.do("bob", setting(8))[0], (2, "bob", 2))
        office.crash("bob", len(office.store_of("bob")) - 1)
        self.assertEqual(office.do("bob", setting(8))[0], (2, "bob", 3))
        self.assertEqual(office.undo("bob", (1, "bob", 1))[0], (3, "bob", 3))
        self.assertEqual(office.crash("ann", 0), 0)
        self.assertEqual(office.do("ann", setting(5))[0], (1, "ann", 1))
        self.assertEqual(office.do("eve", setting(5))[0], (1, "eve", 0))

    def test_a_crash_of_one_who_told_others(self):
        office = self.led()
        office.send("bob", "eve")
        known = office.steps_of("eve")
        office.crash("bob", 0)
        office.do("bob", setting(9))
        self.assertEqual(office.send("eve", "bob"), 5)
        self.assertEqual(office.steps_of("bob"), tuple(sorted(known + (((1, "bob", 1), setting(9)),))))
        self.assertEqual(office.send("bob", "eve"), 1)
        self.assertEqual(office.book_of("bob"), office.book_of("eve"))
        self.assertEqual(office.redo("bob", (1, "bob", 0))[0], (5, "bob", 1))

    def test_refuses_numbers(self):
        office = self.led()
        for many in [-1, True, False, None, "0", "", (), (0,), [0], 1.0, b"", *ODD_THINGS]:
            if type(many) is not int or many not in (0, 1, 42):
                self.refuses(InvalidNumber, many, office, "crash", "bob", many)
                self.refuses(InvalidNumber, many, office, "crash", "ann", many)
        self.refuses(InvalidNumber, one := 1, office, "crash", "eve", one)
        self.assertEqual(office.crash("eve", 0), 0)

    def test_tidy(self):
        office = self.led()
        before = office.store_of("bob")
        self.assertIsNone(office.tidy(own("bob")))
        self.assertEqual(office.store_of("bob"), stored(office.steps_of("bob")))
        self.assertEqual(len(office.store_of("bob")), len(before))
        self.assertNotEqual(office.store_of("bob"), before)
        self.holds(office, "bob", office.steps_of("bob"))
        told = state(office)
        office.tidy("bob")
        office.tidy("eve")
        self.assertEqual(state(office), told)
        ends = len(store_of(office.steps_of("bob")[:3]))
        known = office.steps_of("bob")[:3]
        self.assertEqual(office.crash("bob", ends), 3)
        self.assertEqual(office.steps_of("bob"), known)

    def test_refuses_who_is_none_of_the_people(self):
        office = self.led()
        for person in NOBODY:
            for call, arguments in (
                ("steps_of", ()), ("book_of", ()), ("store_of", ()), ("do", (setting(1),)), ("do", (None,)),
                ("undo", ((1, "bob", 0),)),
                ("undo", (None,)), ("redo", ((1, "bob", 0),)), ("redo", (None,)), ("send", ("ann",)),
                ("send", ("dan",)),
                ("crash", (0,)), ("crash", (None,)), ("tidy", ()), ("see", (CELL,)), ("see", (None,)),
                ("watch", (CELL,)),
                ("watch", (None,)), ("watched", ()), ("news", ()),
            ):
                self.refuses(InvalidName, person, office, call, person, *arguments)
            self.refuses(InvalidName, person, office, "send", "ann", person)

    def test_refuses_what_its_copies_refuse(self):
        office = self.led()
        for deed in [None, (), ("undo", (1, "bob", 0)), ["sheet", "a"], ("rows", "bills", None, 6), *ODD_THINGS]:
            self.refuses(InvalidDeed, deed, office, "do", "ann", deed)
        for stamp in [(1, "bob", 0), (9, "bob", 0), (3, "bob", 0), (1, "ann", 0), *NO_STAMPS]:
            self.refuses(InvalidStamp, stamp, office, "undo", "bob", stamp)
        for stamp in [(2, "bob", 0), (9, "bob", 0), (3, "bob", 0), (1, "ann", 0), *NO_STAMPS]:
            self.refuses(InvalidStamp, stamp, office, "redo", "bob", stamp)
        for cell in [None, (), CELL[:2], list(CELL), ("bills", 1, 1), *ODD_THINGS]:
            self.refuses(InvalidCell, cell, office, "watch", "bob", cell)
            self.refuses(InvalidCell, cell, office, "see", "bob", cell)

    def test_two_offices_of_one_book_keep_apart(self):
        one, other = Office(BOOK, PEOPLE), Office(BOOK, PEOPLE)
        before = state(other)
        one.do("ann", setting(1))
        one.send("ann", "bob")
        one.watch("ann", CELL)
        one.news("ann")
        one.crash("ann", 0)
        self.assertEqual(state(other), before)
        self.assertEqual(other.do("ann", setting(1))[0], (1, "ann", 0))
        self.assertEqual(BOOK, book(sheet("bills", 2, 2, {}), views=BOOK.views, rights=BOOK.rights))
        self.assertTrue(one == one)
        self.assertFalse(one == other or Office(BOOK, PEOPLE) == Office(BOOK, PEOPLE))
        with self.assertRaises(TypeError):
            iter(one)

    def test_the_people_need_not_be_those_of_the_rights(self):
        office = Office(BOOK, ("bob", "dan"))
        self.assertEqual(office.do("dan", setting(1))[1], setting(1))
        self.assertEqual(office.book_of("dan").sheets[0][3], ((ROWS[0], COLUMNS[0], n(1)),))
        with self.assertRaises(BookError):
            office.do("ann", setting(1))


if __name__ == "__main__":
    unittest.main()
