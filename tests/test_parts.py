"""The parts promise, (2) to (4), over many books as chance makes them, against the meaning told once more."""

import random
import unittest

from ledgerloom.meaning import all_values, needs, needs_in_all, on_rings, value_of
from ledgerloom.reckoning import changed, reached
from ledgerloom.trees import printed, read_tree
from tests import chance, model
from tests.helper import COLUMNS, ROWS, area, book, call, cell, number


def formulas_of(some_book):
    """The trees of all formulas of a book."""
    return [content[1] for content in chance.contents_of(some_book).values() if content[0] == "="]


def is_whole(some_book, tree):
    """Whether nothing of the tree is gone."""
    return all(model.named_by(some_book, thing) is not None for thing in model.things_in(tree))


class PrintsTest(unittest.TestCase):
    """(2)."""

    def test_printed_and_read_again(self):
        dice = random.Random(2)
        found = 0
        for _ in range(150):
            some_book = chance.some_book(dice)
            for tree in formulas_of(some_book):
                told = printed(some_book, tree)
                self.assertEqual("#gone" in told, not is_whole(some_book, tree))
                if is_whole(some_book, tree):
                    found += 1
                    self.assertEqual(read_tree(some_book, told), tree)
                else:
                    with self.assertRaises(ValueError):
                        read_tree(some_book, told)
        self.assertGreater(found, 200)

    def test_moves_change_prints_and_not_what_is_named(self):
        tree = call("sum", area("bills", 0, 0, 2, 1), cell("bills", 1, 1))
        for rows, columns, told in (
            ((0, 1, 2), (0, 1), "sum(bills!a1:bills!b3, bills!b2)"),
            ((9, 0, 1, 2), (0, 1), "sum(bills!a2:bills!b4, bills!b3)"),
            ((2, 1, 0), (0, 1), "sum(bills!a3:bills!b1, bills!b2)"),
            ((0, 9, 2, 1), (1, 9, 0), "sum(bills!c1:bills!a3, bills!a4)"),
            ((0, 2), (0, 1), "sum(bills!a1:bills!b2, #gone)"), ((1, 2), (0, 1), "sum(#gone, bills!b1)"),
            ((0, 1, 2), (0,), "sum(#gone, #gone)"),
        ):
            some_book = book(
                ("bills", tuple(ROWS[row] for row in rows), tuple(COLUMNS[column] for column in columns), ())
            )
            self.assertEqual(printed(some_book, tree), told)
            if "#gone" not in told:
                self.assertEqual(read_tree(some_book, told), tree)

    def test_a_print_means_another_tree_where_rows_moved(self):
        before = book(("bills", ROWS[:3], COLUMNS[:1], ()))
        after = book(("bills", (ROWS[2], ROWS[0], ROWS[1]), COLUMNS[:1], ()))
        self.assertEqual(read_tree(before, "bills!a1 + 1"), ("op", "+", cell("bills", 0, 0), number(1)))
        self.assertEqual(read_tree(after, "bills!a1 + 1"), ("op", "+", cell("bills", 2, 0), number(1)))
        self.assertEqual(printed(after, read_tree(before, "bills!a1 + 1")), "bills!a2 + 1")

    def test_changes_leave_trees_as_they_are(self):
        dice = random.Random(22)
        for _ in range(60):
            before = chance.some_book(dice)
            after = chance.some_change(dice, before)
            for tree in formulas_of(before):
                if is_whole(before, tree) and is_whole(after, tree):
                    self.assertEqual(read_tree(after, printed(after, tree)), read_tree(before, printed(before, tree)))


class MeaningTest(unittest.TestCase):
    """(3)."""

    def test_each_cell_has_the_value_of_the_meaning(self):
        dice = random.Random(3)
        kinds = set()
        for _ in range(250):
            some_book = chance.some_book(dice)
            values = model.values_of(some_book)
            told = tuple((some, values[some]) for some in chance.contents_of(some_book))
            self.assertEqual(all_values(some_book), told)
            for some in values:
                self.assertEqual(value_of(some_book, some), values[some])
            kinds |= {value if value and value[0] == "error" else value and value[0] for value in values.values()}
        self.assertEqual(len(kinds), 9)

    def test_each_cell_needs_what_it_mentions(self):
        dice = random.Random(33)
        for _ in range(150):
            some_book = chance.some_book(dice)
            needed = model.all_needs(some_book)
            for some in needed:
                self.assertEqual(needs(some_book, some), tuple(sorted(needed[some])))
                self.assertEqual(needs_in_all(some_book, some), tuple(sorted(model.in_all(needed, some))))

    def test_rings_are_ways_of_mentions_from_a_cell_to_itself(self):
        dice = random.Random(333)
        found = 0
        for _ in range(250):
            some_book = chance.some_book(dice)
            rings = on_rings(some_book)
            self.assertEqual(rings, tuple(sorted(model.ring_cells(some_book))))
            found += len(rings)
        self.assertGreater(found, 50)

    def test_ways_told_out(self):
        dice = random.Random(3333)
        for _ in range(15):
            some_book = chance.some_book(dice)
            ways = model.all_ways(some_book, len(model.all_cells(some_book)))
            self.assertEqual(on_rings(some_book), tuple(sorted(one for one, other in ways if one == other)))


class ChangesTest(unittest.TestCase):
    """(4)."""

    def test_the_values_behind_are_those_ahead_with_the_reached_ones_put_in(self):
        dice = random.Random(4)
        for _ in range(60):
            before = chance.some_book(dice)
            values = model.values_of(before)
            for _ in range(8):
                after = chance.some_change(dice, before)
                behind = model.values_of(after)
                anew = reached(after, changed(before, after))
                values = {some: behind[some] if some in anew else values.get(some) for some in behind}
                self.assertEqual(values, behind)
                before = after


if __name__ == "__main__":
    unittest.main()
