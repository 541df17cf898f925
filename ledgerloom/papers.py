"""Papers: the values from which that of a cell is seen to be what it is."""

from ledgerloom.basics import checked_person, is_same
from ledgerloom.clearness import is_clear
from ledgerloom.errors import Undefined
from ledgerloom.meaning import values_with
from ledgerloom.needing import needs_below
from ledgerloom.places import checked_cell, is_cell


def paper_of(book, cell):
    """The paper for a cell of the book."""
    needed = needs_below(book.sheets, [checked_cell(book.sheets, cell)])
    values = values_with(book.sheets, needed, {})
    return tuple([(known_cell, values[known_cell]) for known_cell in sorted(needed)])


def paper_holds(book, cell, value):
    """Whether the value is the paper for the cell of the book."""
    return is_cell(book.sheets, cell) and is_same(value, paper_of(book, cell))


def paper_for(book, person, cell):
    """The paper for a cell of the book that is clear to the person."""
    checked_person(person)
    known_cell = checked_cell(book.sheets, cell)
    if not is_clear(book, person, known_cell):
        raise Undefined("veiled")
    return paper_of(book, known_cell)
