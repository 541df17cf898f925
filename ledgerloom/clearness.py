"""Which cells are open, and which are clear, to a person."""

from ledgerloom.books import right_on
from ledgerloom.meaning import values_with
from ledgerloom.needing import in_all, needs_below

OPEN_WORDS = ("read", "write")


def is_open(book, person, cell):
    """Whether the person may read the column of the cell."""
    return right_on(book, person, cell[0], cell[2]) in OPEN_WORDS


def is_clear(book, person, cell):
    """Whether the cell and all that it needs in all are open to the person."""
    return all([is_open(book, person, other) for other in needs_below(book.sheets, [cell])])


def clear_of(book, person, needed):
    """Those cells, by cell, that are clear to the person, of all those of which it is told what they need."""
    wide = in_all(needed)
    opened = {cell: is_open(book, person, cell) for cell in wide}
    return {cell: True for cell in wide if opened[cell] and all([opened[other] for other in wide[cell]])}


def values_clear(book, person, cells):
    """The values of those of these cells, and of those that they need in all, that are clear to the person, by cell."""
    needed = needs_below(book.sheets, cells)
    values = values_with(book.sheets, needed, {})
    return {cell: values[cell] for cell in clear_of(book, person, needed)}
