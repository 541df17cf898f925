"""[29]: stores of steps, what is recovered of them, and steps tidied."""

import random
import unittest
from binascii import crc_hqx

from ledgerloom.errors import InvalidBytes, InvalidStamp
from ledgerloom.stores import recovered, stored, tidied, told_of
from tests import chance, chance_deeds
from tests.helper import COLUMNS, ODD_THINGS, ROWS, area, at, bush, call, is_plain, number, own, text
from tests.model_office import check_of, record_of, record_of_text, store_of
from tests.test_is_deed import DEEDS
from tests.test_steps import put, redo, undo

STEPS = (put(1, 1), put(2, 2, "bob"), undo(3, 1), redo(4, 1), ((5, "eve", 99), ("sheet", "notes")))
# The longest step there may be: a row and a column of the longest marks in each of forty trees.
MARK = (999999, "abcdefgh", 99, 99)
SIX = call("count", *[("area", "abcdefgh", MARK, MARK, MARK, MARK)] * 6)
LONG = ((999999, "abcdefgh", 99), ("set", "abcdefgh", MARK, MARK, ("=", call("count", SIX, SIX, SIX, SIX, SIX, call(
    "count", *[("area", "abcdefgh", MARK, MARK, MARK, MARK)] * 3)))))


class CheckTest(unittest.TestCase):
    def test_checks_reckoned_by_hand(self):
        # No byte: as at first. Of one byte 255 each bit is 1 and each number at least 32768: doubled, less 65536.
        self.assertEqual(check_of([]), 65535)
        self.assertEqual(check_of([255]), 65535 * 256 % 65536)
        # Of 0 the first bit changes 65534 by 4129 (61407), and so on: this check of one byte 0 is known.
        self.assertEqual(check_of([0]), 0xE1F0)
        # The known check of this name of numbers.
        self.assertEqual(check_of([ord(sign) for sign in "123456789"]), 0x29B1)

    def test_checks_as_pythons_library_reckons_them(self):
        dice = random.Random(16)
        for many in (0, 1, 2, 3, 10, 100):
            for _ in range(20):
                row = [dice.randint(0, 255) for _ in range(many)]
                self.assertEqual(check_of(row), crc_hqx(bytes(row), 65535))

    def test_a_store_by_hand(self):
        step = ((1, "a", 0), ("sheet", "b"))
        told = '((1, "a", 0), ("sheet", "b"))'
        self.assertEqual(len(told), 29)
        body = (0, 0, 29, *[ord(sign) for sign in told])
        self.assertEqual(stored((step,)), (*body, 103, 8))
        self.assertEqual(check_of(body), 103 * 256 + 8)
        self.assertEqual(recovered((*body, 103, 8)), ((step,), 34))
        self.assertEqual(recovered((*body, 8, 103)), ((), 0))


class StoredTest(unittest.TestCase):
    def test_some_steps(self):
        for steps in ((), STEPS[:1], STEPS, STEPS[::-1], STEPS * 2, (STEPS[0], put(1, 7)), STEPS * 24):
            for same in (steps, own(steps)):
                found = stored(same)
                self.assertEqual(found, store_of(steps))
                self.assertTrue(is_plain(found))
            self.assertEqual(recovered(found), (steps, len(found)))
        self.assertEqual(stored(()), ())

    def test_each_deed(self):
        steps = tuple(((k + 1, "ann", 0), deed) for k, deed in enumerate(DEEDS))
        self.assertEqual(stored(steps), store_of(steps))
        self.assertEqual(recovered(stored(steps)), (steps, len(stored(steps))))

    def test_long_steps(self):
        self.assertGreater(len(told_of(LONG)), 4500)
        steps = tuple(((k + 1, "abcdefgh", 99), LONG[1]) for k in range(120))
        found = stored(steps)
        self.assertEqual(len(found), sum(len(told_of(step)) + 5 for step in steps))
        self.assertEqual(found[:len(record_of(steps[0]))], record_of(steps[0]))
        self.assertEqual(recovered(found), (steps, len(found)))
        self.assertEqual(recovered(found[:-1])[0], steps[:-1])
        view = ("abcdefgh", "abcdefgh", bush(40), tuple(((999999, "abcdefgh", 99, k), "down") for k in range(3)))
        for deed in (("view", view), ("set", *at("bills", 0, 0), ("=", bush(39)))):
            step = ((1, "ann", 0), deed)
            self.assertEqual(recovered(stored((step,))), ((step,), len(stored((step,)))))

    def test_number_of_steps(self):
        steps = tuple(put(k + 1, k) for k in range(120))
        self.assertEqual(stored(steps), store_of(steps))
        for wrong in (steps + (put(121, 0),), steps + steps[:1], steps * 100):
            self.refuses(wrong)

    def refuses(self, steps):
        for ask in (stored, tidied):
            with self.assertRaises(InvalidStamp) as caught:
                ask(steps)
            self.assertIs(caught.exception.value, steps)

    def test_refuses_what_is_no_steps(self):
        one = put(5, 5)
        for steps in [None, [], [one], one, "steps", (None,), (one, None), (list(one),), ((one[1], one[0]),), (one[0],),
                      ((one[0], None),), (((0, "ann", 0), one[1]),), (((1, "all", 0), one[1]),), {1: one}, 1, True,
                      ((one[0], ("undo", None)),), (((True, "ann", 0), one[1]),), *ODD_THINGS]:
            if steps != ():
                self.refuses(steps)

    def test_by_name(self):
        self.assertEqual(stored(steps=STEPS), store_of(STEPS))
        self.assertEqual(recovered(row=store_of(STEPS))[0], STEPS)
        self.assertEqual(tidied(steps=STEPS[::-1]), STEPS)


class RecoveredTest(unittest.TestCase):
    def recovers(self, row, steps, used):
        for same in (tuple(row), own(tuple(row))):
            found = recovered(same)
            self.assertEqual(found, (steps, used))
            self.assertTrue(is_plain(found))

    def test_a_store_that_is_cut_anywhere(self):
        store = store_of(STEPS)
        ends = [len(store_of(STEPS[:many])) for many in range(len(STEPS) + 1)]
        for cut in range(len(store) + 1):
            many = max(k for k, end in enumerate(ends) if end <= cut)
            self.recovers(store[:cut], STEPS[:many], ends[many])

    def test_more_behind_it(self):
        store = store_of(STEPS)
        for more in ((0,), (0, 0), (0, 0, 0), (0, 0, 0, 0, 0), (255,) * 10, (0, 0, 5), store[1:], (0,) * 1000):
            self.recovers(store + more, STEPS, len(store))
        self.recovers(store + store[:-1], STEPS + STEPS[:-1], len(store) + len(store_of(STEPS[:-1])))
        self.recovers(store * 3, STEPS * 3, len(store) * 3)
        self.recovers(store * 40, STEPS * 40, len(store) * 40)

    def test_a_byte_changed(self):
        store = store_of(STEPS)
        ends = [len(store_of(STEPS[:many])) for many in range(len(STEPS) + 1)]
        for place in range(len(store)):
            many = max(k for k, end in enumerate(ends) if end <= place)
            for change in (1, 128, 255, 65):
                row = list(store)
                row[place] ^= change
                found = recovered(tuple(row))
                self.assertEqual(found, (STEPS[:many], ends[many]))

    def test_at_most_sixteen_neighbouring_bits_changed(self):
        dice = random.Random(29)
        ends = [len(store_of(STEPS[:many])) for many in range(len(STEPS) + 1)]
        for many in range(len(STEPS)):
            bits = [int(sign) for byte in store_of(STEPS) for sign in f"{byte:08b}"]
            for _ in range(150):
                wide = dice.randint(1, 16)
                first = dice.randint((ends[many] + 3) * 8, ends[many + 1] * 8 - wide)
                told = bits[:]
                for place in range(first, first + wide):
                    told[place] ^= 1 if place in (first, first + wide - 1) else dice.randint(0, 1)
                row = tuple(int("".join(map(str, told[k:k + 8])), 2) for k in range(0, len(told), 8))
                self.assertEqual(recovered(row), (STEPS[:many], ends[many]))

    def test_lengths_that_are_too_great(self):
        store = list(store_of(STEPS))
        for head in ((255, 255, 255), (0, 255, 255), (1, 0, 0), (0, 1, 0), (0, 0, 255), (0, 0, store[2] + 1),
            (0, 0, 0)):
            self.recovers([*head, *store[3:]], (), 0)
        at = len(store_of(STEPS[:2]))
        self.recovers(store[:at] + [255, 255, 255] + store[at + 3:], STEPS[:2], at)
        long = "(" + "1, " * 9999 + "1)"
        self.recovers(store_of(STEPS[:1]) + record_of_text(long), STEPS[:1], len(store_of(STEPS[:1])))
        for many in (30001, 40000):
            self.recovers(store_of(STEPS[:1]) + record_of_text(" " * many), STEPS[:1], len(store_of(STEPS[:1])))

    def test_right_records_whose_text_is_no_step(self):
        one = store_of(STEPS[:1])
        told = told_of(STEPS[0])
        for wrong in (
            "", "none", "1", "()", '("set")', told[1:-1], told + " ", " " + told, told[:-1], told.replace(", ", ","),
            told_of(STEPS[0][1]), told_of(STEPS[0][0]), told_of((STEPS[0],)), told.replace("1", "01", 1),
            "(" * 60 + ")" * 60,
            told.replace('"ann"', '"all"'), told.replace('"ann"', '"Ann"'), told.replace("1", "-1", 1),
            told.replace("set", "sit"),
            '((1, "ann", 0), ("undo", (0, "ann", 0)))', '((1, "ann", 0), ("undo"))',
            '((1000000, "ann", 0), ("sheet", "a"))',
            told.replace('"number", 1', '"number", 2, 2'), "\n" + told, told + "\n", told.replace(" ", "\t"),
            "\x00" * 40, "\x7f",
            told.replace("ann", chr(92)), told.replace("ann", chr(37)), "\u00ff" * 10, told.replace("ann", "\u00e9"),
        ):
            self.recovers(record_of_text(wrong), (), 0)
            self.recovers(one + record_of_text(wrong) + one, STEPS[:1], len(one))
        self.recovers(one + record_of_text(told) + one, STEPS[:1] * 3, len(one) * 3)

    def test_steps_out_of_order_and_twice(self):
        for steps in (STEPS[::-1], STEPS * 2, (put(1, 1), put(1, 2))):
            self.recovers(store_of(steps), steps, len(store_of(steps)))

    def test_of_nothing(self):
        self.recovers((), (), 0)
        for row in ((0,), (0, 0), (0, 0, 0), (0, 0, 0, 0), (0,) * 5, (255,) * 5, (0,) * 100, (1, 2, 3)):
            self.recovers(row, (), 0)
        check = check_of([0, 0, 0])
        self.recovers((0, 0, 0, check // 256, check % 256), (), 0)

    def test_over_steps_made_by_chance(self):
        dice = random.Random(290)
        for _ in range(20):
            some_book = chance.some_shared_book(dice)
            steps = chance_deeds.some_steps(dice, some_book, 15)
            store = stored(steps)
            self.assertEqual(store, store_of(steps))
            self.recovers(store, steps, len(store))
            cut = dice.randint(0, len(store))
            found, used = recovered(store[:cut])
            self.assertEqual((found, used), (steps[:len(found)], len(store_of(found))))
            self.assertTrue(len(found) == len(steps) or len(store_of(steps[:len(found) + 1])) > cut)

    def test_refuses_what_is_no_tuple_of_bytes(self):
        store = store_of(STEPS[:1])
        for row in [None, list(store), [], "", "abc", b"", bytes(store), bytearray(store), 0, 255, {1: 2}, *ODD_THINGS]:
            if row != ():
                self.refuses(row)
        for byte in [256, 257, -1, 10 ** 12, True, False, None, "1", "a", (), (1,), [1], b"1", 1.0, *ODD_THINGS]:
            if type(byte) is not int or not 0 <= byte <= 255:
                self.refuses((byte,))
                self.refuses(store + (byte,))
                self.refuses((byte,) + store)

    def refuses(self, row):
        with self.assertRaises(InvalidBytes) as caught:
            recovered(row)
        self.assertIs(caught.exception.value, row)


class TidiedTest(unittest.TestCase):
    def tidies(self, steps, told):
        for same in (steps, own(steps)):
            found = tidied(same)
            self.assertEqual(found, told)
            self.assertTrue(is_plain(found))

    def test_some_steps(self):
        self.tidies((), ())
        self.tidies(STEPS, STEPS)
        self.tidies(STEPS[::-1], STEPS)
        self.tidies(STEPS * 2, STEPS)
        self.tidies((STEPS[3], STEPS[0], STEPS[3], STEPS[3]), (STEPS[0], STEPS[3]))
        self.tidies(STEPS * 24, STEPS)
        one, other, third = put(5, 1, "ann", life=2), put(5, 1, "ann", life=10), put(5, 1, "bob")
        self.tidies((third, other, one), (one, other, third))
        self.tidies((put(10, 1), put(9, 1)), (put(9, 1), put(10, 1)))

    def test_refuses_two_unlike_ones_with_one_stamp(self):
        for steps in (
            (put(1, 1), put(1, 2)), (put(1, 1), undo(1, 1)), (undo(1, 1), redo(1, 1)), (*STEPS, put(3, 3)),
            (put(9, 9), *STEPS, ((5, "eve", 99), ("sheet", "note"))), (put(1, 1), put(1, 1), put(1, 2)),
        ):
            for same in (steps, steps[::-1]):
                with self.assertRaises(InvalidStamp) as caught:
                    tidied(same)
                self.assertIs(caught.exception.value, same)
        self.tidies((put(1, 1), put(1, 2, "bob"), put(1, 3, life=1)), (put(1, 1), put(1, 3, life=1), put(1, 2, "bob")))

    def test_number_of_steps(self):
        steps = tuple(put(k + 1, k) for k in range(120))
        self.tidies(steps[::-1], steps)
        self.tidies(steps[:60] * 2, steps[:60])

    def test_what_is_recovered_may_be_tidied(self):
        store = stored(STEPS[::-1] + STEPS[:2])
        self.assertEqual(tidied(recovered(store)[0]), STEPS)
        cell = ("cell", "bills", ROWS[0], COLUMNS[0])
        step = ((7, "ann", 1), ("set", *at("bills", 0, 0), ("=", ("op", "&", cell, text("a;b")))))
        self.assertEqual(recovered(stored((step,)))[0], (step,))
        step = ((7, "ann", 1), ("set", *at("bills", 0, 0),
            ("=", call("sum", area("bills", 0, 0, 1, 1), number(-3, 7)))))
        self.assertEqual(recovered(stored((step,)))[0], (step,))


if __name__ == "__main__":
    unittest.main()
