"""[20]: papers for cells, which things are papers, and papers that are given to persons."""

import random
import unittest

from ledgerloom.errors import InvalidCell, InvalidName, Undefined
from ledgerloom.meaning import needs_in_all, value_of
from ledgerloom.papers import paper_for, paper_holds, paper_of
from tests import chance, model, model_shown
from tests.helper import (
    COLUMNS, ODD_THINGS, ROWS, OwnText, area, at, book, call, cell, found_at, is_plain, nested, number, own, paths,
    put_at, sheet, text,
)
from tests.test_meaning import NO_CELLS
from tests.test_rights import NO_PERSONS

ONE = ("number", 1, 1)
RING = ("error", "ring")
GONE = ("error", "gone")
# A value, a chain of formulas that leads to it, nothing, a ring of two, a cell that leads to one, what is gone.
CONTENTS = {
    (0, 0): ONE, (0, 1): ("=", ("op", "+", cell("bills", 0, 0), number(1))),
    (0, 2): ("=", ("op", "*", cell("bills", 0, 1), cell("bills", 0, 0))),
    (1, 0): ("=", cell("bills", 1, 1)), (1, 1): ("=", cell("bills", 1, 0)),
    (1, 2): ("=", call("count", cell("bills", 1, 1), cell("bills", 0, 0))),
    (2, 0): ("=", cell("none", 0, 0)), (2, 1): ("=", call("sum", area("bills", 0, 0, 9, 0), cell("bills", 0, 1))),
    (2, 2): ("text", "a"),
}
BILLS = sheet("bills", 4, 3, CONTENTS)
BOOK = book(BILLS, sheet("notes", 1, 1, {(0, 0): ("=", cell("bills", 0, 1))}))


def here(row, column):
    """The cell of the sheet at this place."""
    return at("bills", row, column)


PAPERS = {
    here(3, 1): ((here(3, 1), None),),
    here(0, 0): ((here(0, 0), ONE),),
    here(2, 2): ((here(2, 2), ("text", "a")),),
    here(0, 1): ((here(0, 0), ONE), (here(0, 1), ("number", 2, 1))),
    here(0, 2): ((here(0, 0), ONE), (here(0, 1), ("number", 2, 1)), (here(0, 2), ("number", 2, 1))),
    here(1, 0): ((here(1, 0), RING), (here(1, 1), RING)),
    here(1, 1): ((here(1, 0), RING), (here(1, 1), RING)),
    here(1, 2): ((here(0, 0), ONE), (here(1, 0), RING), (here(1, 1), RING), (here(1, 2), RING)),
    here(2, 0): ((here(2, 0), GONE),),
    here(2, 1): ((here(0, 0), ONE), (here(0, 1), ("number", 2, 1)), (here(2, 1), GONE)),
    at("notes", 0, 0): ((here(0, 0), ONE), (here(0, 1), ("number", 2, 1)), (at("notes", 0, 0), ("number", 2, 1))),
}


def lists_of(thing):
    """The same thing of lists."""
    return [lists_of(member) for member in thing] if isinstance(thing, tuple) else thing


class PaperOfTest(unittest.TestCase):
    def test_papers_of_cells_of_each_kind(self):
        for some_cell, told in PAPERS.items():
            for same in (some_cell, own(some_cell)):
                found = paper_of(BOOK, same)
                self.assertEqual(found, told)
                self.assertTrue(is_plain(found))

    def test_what_a_paper_tells(self):
        for some_cell in model.all_cells(BOOK):
            found = paper_of(book=BOOK, cell=some_cell)
            self.assertEqual(
                [one for one, _ in found], sorted({some_cell, *needs_in_all(BOOK, some_cell)})
            )
            for one, value in found:
                self.assertEqual(value, value_of(BOOK, one))

    def test_a_ring_of_one_and_an_empty_cell_that_is_needed(self):
        some_book = book(sheet("bills", 1, 3, {
            (0, 0): ("=", ("minus", cell("bills", 0, 0))), (0, 1): ("=", ("op", "&", text("a"), cell("bills", 0, 2)))
        }))
        self.assertEqual(paper_of(some_book, here(0, 0)), ((here(0, 0), RING),))
        self.assertEqual(paper_of(some_book, here(0, 1)), ((here(0, 1), ("text", "a")), (here(0, 2), None)))

    def test_a_paper_hangs_on_what_it_tells_of_alone(self):
        other = book(
            sheet("bills", 4, 3, {**CONTENTS, (3, 1): ONE, (2, 2): ("truth", 0), (1, 0): ONE}), views=(), owner="bob",
            rights=(("all", "bills", None, "none"),),
        )
        for row, column in ((0, 0), (0, 1), (0, 2), (2, 1), (2, 0)):
            self.assertEqual(paper_of(other, here(row, column)), paper_of(BOOK, here(row, column)))
        self.assertNotEqual(paper_of(other, here(3, 1)), paper_of(BOOK, here(3, 1)))
        self.assertNotEqual(paper_of(other, here(1, 2)), paper_of(BOOK, here(1, 2)))

    def test_refuses_what_is_no_cell(self):
        for wrong in NO_CELLS:
            with self.assertRaises(InvalidCell) as caught:
                paper_of(book(sheet("bills", 4, 3, {})), wrong)
            self.assertIs(caught.exception.value, wrong)


class PaperHoldsTest(unittest.TestCase):
    def holds(self, some_cell, value, told):
        self.assertIs(paper_holds(BOOK, some_cell, value), told, value)

    def test_the_paper_holds(self):
        for some_cell, paper in PAPERS.items():
            self.holds(some_cell, paper, True)
            self.holds(own(some_cell), own(paper), True)
            self.assertIs(paper_holds(value=paper, cell=some_cell, book=BOOK), True)

    def test_papers_of_other_cells(self):
        for some_cell, paper in PAPERS.items():
            for other in model.all_cells(BOOK):
                self.holds(other, paper, paper == model_shown.paper_of(BOOK, other))

    def test_pairs_left_out_put_to_twice_and_out_of_order(self):
        for some_cell, paper in PAPERS.items():
            for place, pair in enumerate(paper):
                self.holds(some_cell, paper[:place] + paper[place + 1:], False)
                self.holds(some_cell, paper[:place] + (pair,) + paper[place:], False)
                self.holds(some_cell, paper + (pair,), False)
                if len(paper) > 1:
                    self.holds(some_cell, (pair,) + paper[:place] + paper[place + 1:], place == 0)
            for more in ((here(3, 0), None), (here(3, 2), None), (at("z", 0, 0), None), None, ()):
                self.holds(some_cell, paper + (more,), False)
                self.holds(some_cell, (more,) + paper, False)
            self.holds(some_cell, (), False)
            self.holds(some_cell, paper * 2, False)
            self.holds(some_cell, paper[::-1], len(paper) == 1)
            self.holds(some_cell, tuple(pair[::-1] for pair in paper), False)

    def test_each_part_changed(self):
        for some_cell, paper in PAPERS.items():
            for path in paths(paper):
                part = found_at(paper, path)
                for thing in [
                    None, True, False, 0, 1, 2, "", "ring", "bills", (), [], ("number", 1, 1), ("number", 1, True),
                    ("error", "kind"), nested(60), lists_of(part), *ODD_THINGS,
                ]:
                    changed = put_at(paper, path, thing)
                    if type(thing) is not type(part) or thing != part:
                        self.holds(some_cell, changed, False)
                if isinstance(part, tuple):
                    self.holds(some_cell, put_at(paper, path, part + (None,)), False)
                    self.holds(some_cell, put_at(paper, path, part[:-1]), False)

    def test_a_bool_is_no_integer(self):
        self.holds(here(0, 0), ((here(0, 0), ("number", 1, 1)),), True)
        for value in (("number", True, 1), ("number", 1, True), ("number", True, True)):
            self.holds(here(0, 0), ((here(0, 0), value),), False)
        for row in ((True, "", 0, 0), (1, "", False, 0), (1, "", 0, False)):
            self.holds(here(0, 0), ((("bills", row, COLUMNS[0]), ONE),), False)

    def test_lists_are_no_tuples(self):
        paper = PAPERS[here(0, 1)]
        for changed in (
            lists_of(paper), list(paper), tuple(list(pair) for pair in paper), (list(paper[0]), paper[1]),
            tuple((list(one), value) for one, value in paper), tuple((one, list(value)) for one, value in paper),
        ):
            self.holds(here(0, 1), changed, False)

    def test_what_is_no_paper_at_all(self):
        deep = ()
        for _ in range(20000):
            deep = (deep,)
        for thing in [*ODD_THINGS, None, "paper", ((None,),), nested(60), deep, (None,) * 30000, PAPERS, {1: 2}, 1.5]:
            for some_cell in PAPERS:
                self.holds(some_cell, thing, False)
                self.holds(some_cell, (thing,) * len(PAPERS[some_cell]), False)

    def test_what_is_no_cell(self):
        for wrong in NO_CELLS:
            for thing in (PAPERS[here(0, 0)], ((wrong, None),), (), None, wrong):
                self.assertIs(paper_holds(book(sheet("bills", 4, 3, {})), wrong, thing), False)
        self.holds([*here(0, 0)], PAPERS[here(0, 0)], False)
        self.holds(("bills", (True, "", 0, 0), COLUMNS[0]), PAPERS[here(0, 0)], False)

    def test_over_books_made_by_chance(self):
        dice = random.Random(20)
        for _ in range(60):
            some_book = chance.some_book(dice)
            other = chance.some_change(dice, some_book)
            for some_cell in model.all_cells(some_book):
                paper = model_shown.paper_of(some_book, some_cell)
                self.assertEqual(paper_of(some_book, some_cell), paper)
                self.assertIs(paper_holds(some_book, some_cell, paper), True)
                there = some_cell in model.all_cells(other)
                self.assertIs(
                    paper_holds(other, some_cell, paper), there and model_shown.paper_of(other, some_cell) == paper
                )


class PaperForTest(unittest.TestCase):
    def shared(self, *rights):
        return book(BILLS, sheet("notes", 1, 1, {(0, 0): ("=", cell("bills", 0, 1))}), rights=rights)

    def is_given(self, some_book, person, some_cell):
        for same in (some_cell, own(some_cell)):
            found = paper_for(some_book, own(person), same)
            self.assertEqual(found, PAPERS[some_cell])
            self.assertTrue(is_plain(found))

    def refuses(self, kind, wrong, some_book, person, some_cell):
        with self.assertRaises(kind) as caught:
            paper_for(some_book, person, some_cell)
        self.assertIs(caught.exception.value, wrong)

    def is_veiled(self, some_book, person, some_cell):
        with self.assertRaises(Undefined) as caught:
            paper_for(some_book, person, some_cell)
        self.assertEqual(caught.exception.what, "veiled")

    def test_the_owner_is_given_all(self):
        for rights in ((), (("ann", "bills", None, "none"),)):
            for some_cell in PAPERS:
                self.is_given(self.shared(*rights), "ann", some_cell)

    def test_cells_that_are_not_open(self):
        for some_cell in PAPERS:
            self.is_veiled(self.shared(), "bob", some_cell)
            self.is_veiled(self.shared(("bob", "none", None, "read")), "bob", some_cell)
        for word in ("read", "write"):
            some_book = self.shared(("bob", "bills", None, word))
            for some_cell in PAPERS:
                if some_cell[0] == "bills":
                    self.is_given(some_book, "bob", some_cell)
                    self.is_veiled(some_book, "eve", some_cell)
                else:
                    self.is_veiled(some_book, "bob", some_cell)

    def test_cells_that_need_one_that_is_not_open(self):
        some_book = self.shared(("all", "bills", COLUMNS[1], "read"), ("all", "notes", None, "read"))
        for some_cell in (here(0, 1), here(1, 1), here(2, 1), at("notes", 0, 0)):
            self.is_veiled(some_book, "bob", some_cell)
        self.is_given(some_book, "bob", here(3, 1))
        some_book = self.shared(("all", "bills", COLUMNS[2], "write"), ("all", "bills", COLUMNS[0], "read"))
        for some_cell in (here(0, 2), here(1, 2), here(1, 0), here(0, 1)):
            self.is_veiled(some_book, "bob", some_cell)
        for some_cell in (here(0, 0), here(2, 0), here(2, 2)):
            self.is_given(some_book, "bob", some_cell)

    def test_what_is_gone_hides_nothing(self):
        some_book = self.shared(("bob", "bills", COLUMNS[0], "read"), ("bob", "none", None, "none"))
        self.is_given(some_book, "bob", here(2, 0))

    def test_by_name(self):
        self.assertEqual(paper_for(cell=here(0, 1), person="ann", book=BOOK), PAPERS[here(0, 1)])

    def test_refuses_persons_ahead_of_cells_ahead_of_what_is_veiled(self):
        odd = [thing for thing in ODD_THINGS if thing not in ("ann", "value")]
        for person in ["all", OwnText("all"), *NO_PERSONS, *odd]:
            self.refuses(InvalidName, person, BOOK, person, here(0, 0))
            self.refuses(InvalidName, person, BOOK, person, None)
        for wrong in NO_CELLS:
            if wrong != ("notes", ROWS[0], COLUMNS[0]):
                self.refuses(InvalidCell, wrong, BOOK, "bob", wrong)
                self.refuses(InvalidCell, wrong, BOOK, "ann", wrong)


if __name__ == "__main__":
    unittest.main()
