"""[32] and chapter 1: what holds over the whole program, along rows of calls as chance makes them."""

import random
import unittest

from ledgerloom.copies import Copy, book_of, off_of, void_of
from ledgerloom.deeds import done
from ledgerloom.errors import InvalidStamp, Undefined
from ledgerloom.meaning import all_values, value_of
from ledgerloom.office import Office
from ledgerloom.pages import page, read_page
from ledgerloom.papers import paper_for, paper_holds, paper_of
from ledgerloom.reckoning import Reckoner, changed, reached
from ledgerloom.seeing import seen, summary_of, view_rows
from ledgerloom.stores import recovered, stored, tidied
from tests import chance, chance_deeds, model, model_deeds, model_shown
from tests.model_office import ModelOffice, store_of

PEOPLE = ("ann", "bob", "eve")
CALLS = [
    "do", "do", "do", "do", "undo", "undo", "redo", "send", "send", "send", "crash", "tidy", "watch", "watch",
    "news", "news",
    "see",
]


def shown_of(book, person):
    """All that a person is shown of a book."""
    cells = model.all_cells(book)
    papers = []
    for cell in cells:
        try:
            papers.append(paper_for(book, person, cell))
        except Undefined:
            papers.append("veiled")
    return (
        [seen(book, person, cell) for cell in cells], papers, [view_rows(book, person, view[0]) for view in book.views],
        [summary_of(book, person, summary[0]) for summary in book.summaries],
        [page(book, person, sheet[0]) for sheet in book.sheets],
    )


def some_cell(dice, book):
    """Some cell, most times one that is there."""
    cells = model.all_cells(book)
    return dice.choice(cells) if cells and dice.random() < 0.8 else ("bills",
        *[chance.some_mark(dice) for _ in range(2)])


def some_call(dice, office, persons=PEOPLE):
    """Some call of an office: its word, and its arguments; of deeds only such of these persons."""
    word = dice.choice(CALLS)
    person = dice.choice(persons if word in ("do", "undo", "redo") else PEOPLE)
    stamps = [step[0] for step in office.steps_of(person)]
    own = [stamp for stamp in stamps if stamp[1] == person] + [(1, "bob", 0)]
    if word == "do":
        return word, person, chance_deeds.some_deed(dice, office.book_of(person))
    if word == "undo":
        return word, person, dice.choice(own)
    if word == "redo":
        off = off_of(office.book_of(person), office.steps_of(person))
        return word, person, dice.choice([*off, *off, *own])
    if word == "send":
        return word, person, dice.choice(PEOPLE)
    if word == "crash":
        many = len(office.store_of(person))
        return word, person, dice.choice([many, dice.randint(0, many), dice.randint(many // 2, many)])
    if word in ("watch", "see"):
        return word, person, some_cell(dice, office.book_of(person))
    return word, person


def lets(desks, word, person, *arguments):
    """Whether the document lets this call."""
    if word in ("undo", "redo"):
        return desks.may_undo(person, arguments[0], word == "redo")
    if word == "see":
        return arguments[0] in model.all_cells(desks.outcome(person)[0])
    return True


def answer_of(desks, word, person, *arguments):
    """What the call has to return."""
    if word == "do":
        return desks.make(person, arguments[0])
    if word in ("undo", "redo"):
        return desks.make(person, (word, arguments[0]))
    if word == "see":
        return model_shown.seen(desks.outcome(person)[0], person, arguments[0])
    return getattr(desks, word)(person, *arguments)


class OfficeTest(unittest.TestCase):
    """(8), (9), (12) and [30] to [32]."""

    def is_as_told(self, office, desks):
        """Each person has just what the steps that they know make."""
        for person in PEOPLE:
            desk = desks.desks[person]
            steps = desk.steps()
            self.assertEqual(office.steps_of(person), steps)
            self.assertEqual(office.store_of(person), store_of(desk.kept))
            book = office.book_of(person)
            self.assertEqual(book, model_deeds.outcome_of(desks.first, steps)[0])
            self.assertEqual(office.watched(person), desks.watched(person))

    def test_rows_of_calls(self):
        dice = random.Random(32)
        refused = done_calls = 0
        for _ in range(25):
            first = chance.some_shared_book(dice)
            office, desks = Office(first, PEOPLE), ModelOffice(first, PEOPLE)
            told = {person: {} for person in PEOPLE}
            for _ in range(45):
                word, person, *arguments = some_call(dice, office)
                if not lets(desks, word, person, *arguments):
                    refused += 1
                    with self.assertRaises(ValueError):
                        getattr(office, word)(person, *arguments)
                    self.is_as_told(office, desks)
                    continue
                done_calls += 1
                known = {other: set(office.steps_of(other)) for other in PEOPLE}
                found = getattr(office, word)(person, *arguments)
                self.assertEqual(found, answer_of(desks, word, person, *arguments), word)
                if word == "news":
                    told[person].update(found)
                    self.assertEqual(tuple(sorted(told[person].items())), office.watched(person))
                for other in PEOPLE:
                    self.assertEqual(office.steps_of(other), desks.desks[other].steps())
                    self.assertEqual(office.store_of(other), store_of(desks.desks[other].kept))
                    if word != "crash" or other != person:
                        self.assertLessEqual(known[other], set(office.steps_of(other)))
            self.is_as_told(office, desks)
        self.assertGreater(refused, 20)
        self.assertGreater(done_calls, 500)

    def test_no_stamp_is_given_twice(self):
        dice = random.Random(320)
        for _ in range(20):
            office = Office(chance.some_shared_book(dice), PEOPLE)
            given = []
            for _ in range(60):
                word, person, *arguments = some_call(dice, office)
                try:
                    found = getattr(office, word)(person, *arguments)
                except ValueError:
                    continue
                if word in ("do", "undo", "redo"):
                    given.append(found[0])
            self.assertEqual(len(given), len(set(given)))
            steps = [step for person in PEOPLE for step in office.steps_of(person)]
            self.assertEqual(len(set(steps)), len({step[0] for step in steps}))

    def test_whoever_knows_the_same_has_the_same(self):
        dice = random.Random(321)
        for _ in range(20):
            first = chance.some_shared_book(dice)
            office = Office(first, PEOPLE)
            for _ in range(30):
                word, person, *arguments = some_call(dice, office)
                try:
                    getattr(office, word)(person, *arguments)
                except ValueError:
                    pass
            for person, other in (("ann", "bob"), ("bob", "eve"), ("eve", "ann"), ("ann", "bob")):
                office.send(person, other)
            steps = office.steps_of("ann")
            for person in PEOPLE:
                self.assertEqual(office.steps_of(person), steps)
                self.assertEqual(office.book_of(person), book_of(first, steps))
                self.assertEqual(tidied(recovered(office.store_of(person))[0]), steps)
                office.tidy(person)
                self.assertEqual(office.store_of(person), stored(steps))
            copy = Copy("dan", 7, first)
            pieces = [steps[k::3] for k in range(3)] + [steps[::-1], steps]
            dice.shuffle(pieces)
            for piece in pieces:
                copy.hear(piece)
            self.assertEqual((copy.book, copy.void, copy.off),
                (book_of(first, steps), void_of(first, steps), off_of(first, steps)))


class AlikeTest(unittest.TestCase):
    """(6): what a person is shown hangs on nothing that they may not read."""

    def test_two_offices_whose_first_books_are_alike(self):
        dice = random.Random(6)
        unlike = calls = 0
        for _ in range(40):
            first = chance.some_shared_book(dice)
            person = dice.choice(["bob", "eve"])
            other_book = chance.alike_book(dice, first, lambda cell: model_shown.is_open(first, person, cell))
            unlike += first != other_book
            one, other = Office(first, PEOPLE), Office(other_book, PEOPLE)
            for _ in range(25):
                word, caller, *arguments = some_call(dice, one, [person])
                answers = []
                for office in (one, other):
                    try:
                        answers.append(getattr(office, word)(caller, *arguments))
                    except ValueError as error:
                        answers.append(type(error))
                calls += 1
                if caller == person or word not in ("see", "news"):
                    self.assertEqual(*answers)
                for who in PEOPLE:
                    self.assertEqual(one.steps_of(who), other.steps_of(who))
                    self.assertEqual(one.store_of(who), other.store_of(who))
                self.assertEqual(one.watched(person), other.watched(person))
            self.assertEqual(shown_of(one.book_of(person), person), shown_of(other.book_of(person), person))
        self.assertGreater(unlike, 10)
        self.assertEqual(calls, 1000)

    def test_deeds_of_the_person_keep_books_alike(self):
        dice = random.Random(60)
        for _ in range(60):
            first = chance.some_shared_book(dice)
            other = chance.alike_book(dice, first, lambda cell: model_shown.is_open(first, "bob", cell))
            for clock in range(1, 9):
                deed = chance_deeds.some_deed(dice, first)
                books = []
                for book in (first, other):
                    try:
                        books.append(done(book, (clock, "bob", 0), deed))
                    except Undefined:
                        books.append(book)
                self.assertEqual(books[0] == first, books[1] == other)
                first, other = books
            self.assertEqual(shown_of(first, "bob"), shown_of(other, "bob"))


class ValuesTest(unittest.TestCase):
    """The main promise, (1), (3) to (5), (7), (10): every way to the values, along deeds."""

    def test_every_way_to_the_values_tells_the_same(self):
        dice = random.Random(1)
        for _ in range(25):
            first = chance.some_shared_book(dice)
            copy, reckoner = Copy("ann", 0, first), Reckoner(first)
            values = dict(all_values(first))
            for _ in range(12):
                copy.do(chance_deeds.some_deed(dice, copy.book))
                book = copy.book
                anew = reached(book, changed(reckoner.book, book))
                self.assertEqual(reckoner.turn(book), anew)
                told = model.values_of(book)
                values = {cell: told[cell] if cell in anew else values.get(cell) for cell in told}
                self.assertEqual(values, told)
                self.assertEqual(reckoner.all_values(), all_values(book))
                for cell in told:
                    self.assertEqual(value_of(book, cell), told[cell])
                    paper = paper_of(book, cell)
                    self.assertEqual(dict(paper)[cell], told[cell])
                    self.assertIs(paper_holds(book, cell, paper), True)

    def test_papers_hang_on_their_cells_alone(self):
        dice = random.Random(5)
        kept = gone = 0
        for _ in range(60):
            first = chance.some_shared_book(dice)
            papers = {cell: paper_of(first, cell) for cell in model.all_cells(first)}
            try:
                book = done(first, (50, "ann", 0), chance_deeds.some_deed(dice, first))
            except Undefined:
                continue
            for cell, paper in papers.items():
                there = cell in model.all_cells(book)
                holds = there and model_shown.paper_of(book, cell) == paper
                self.assertIs(paper_holds(book, cell, paper), holds)
                kept, gone = kept + holds, gone + (not holds)
        self.assertGreater(kept, 100)
        self.assertGreater(gone, 10)

    def test_a_deed_made_through_a_view_is_kept_as_the_deed_below_it(self):
        dice = random.Random(7)
        found = 0
        while found < 40:
            book = chance.some_shared_book(dice)
            deed = chance_deeds.some_put(dice, book, ("number", 77, 1))
            copy = Copy("ann", 0, book)
            rows = view_rows(book, "ann", deed[1]) if deed[1] in [view[0] for view in book.views] else ()
            kept = copy.do(deed)[1]
            if copy.void:
                self.assertEqual(kept, deed)
                continue
            found += 1
            self.assertEqual(kept[0], "set")
            self.assertEqual(kept[2:], (rows[deed[2]], *deed[3:]))
            self.assertEqual(copy.book, done(book, (1, "ann", 0), deed))
            self.assertEqual(copy.book, done(book, (1, "ann", 0), kept))

    def test_a_page_put_into_a_new_sheet_shows_the_same(self):
        dice = random.Random(10)
        found = 0
        while found < 40:
            book = chance.some_shared_book(dice)
            person = dice.choice(PEOPLE)
            name, rows, columns, _ = dice.choice(book.sheets)
            if not rows or not columns or len(book.sheets) == 4 or "new" in [sheet[0] for sheet in book.sheets]:
                continue
            found += 1
            told = page(book, person, name)
            copy = Copy("ann", 0, book)
            for deed in (("sheet", "new"), ("rows", "new", None, len(rows)), ("columns", "new", None, len(columns))):
                copy.do(deed)
            _, new_rows, new_columns, _ = [sheet for sheet in copy.book.sheets if sheet[0] == "new"][0]
            for row, line in zip(new_rows, read_page(told)):
                for column, value in zip(new_columns, line):
                    if value not in (None, "?"):
                        copy.do(("set", "new", row, column, value))
            self.assertEqual(copy.void, ())
            self.assertEqual(page(copy.book, "ann", "new"), told.replace("?", ""))

    def test_a_step_undone_and_not_done_again_leaves_all_as_if_it_were_not_there(self):
        dice = random.Random(9)
        for _ in range(40):
            first = chance.some_shared_book(dice)
            copy, other = Copy("ann", 0, first), Copy("ann", 0, first)
            for _ in range(10):
                copy.do(chance_deeds.some_deed(dice, copy.book))
            stamp = dice.choice(copy.steps)[0]
            other.hear(tuple(step for step in copy.steps if step[0] != stamp))
            before = (copy.book, copy.void)
            copy.undo(stamp)
            self.assertEqual((copy.book, copy.void, copy.off), (other.book, other.void, (stamp,)))
            with self.assertRaises(InvalidStamp):
                copy.undo(stamp)
            copy.redo(stamp)
            self.assertEqual((copy.book, copy.void, copy.off), (*before, ()))


if __name__ == "__main__":
    unittest.main()
