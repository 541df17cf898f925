"""Pages: sheets written out for a person, and read in."""

from ledgerloom.amounts import is_written, read_value, written
from ledgerloom.basics import checked_named, checked_person
from ledgerloom.clearness import values_clear
from ledgerloom.errors import InvalidText

LONGEST_PAGE = 20000
VEIL = "?"


def page(book, person, sheet):
    """The page of a sheet of the book for the person."""
    checked_person(person)
    name, rows, columns, _ = checked_named(book.sheets, sheet)
    cells = [(name, row, column) for row in rows for column in columns]
    values = values_clear(book, person, cells)
    lines = [[entry_of((name, row, column), values) for column in columns] for row in rows]
    return "\n".join([";".join(line) for line in lines])


def entry_of(cell, values):
    """What a cell shows, these being the values of the clear ones."""
    return written(values[cell]) if cell in values else VEIL


def read_page(text):
    """The values that the lines of a page tell, "?" for each that it does not."""
    if not isinstance(text, str) or len(text) > LONGEST_PAGE:
        raise InvalidText(text)
    lines = [entries_of(line) for line in text.split("\n")]
    if not are_lines(lines):
        raise InvalidText(text)
    return tuple([tuple([told_by(entry) for entry in line]) for line in lines])


def entries_of(line):
    """The entries of a line, between those ; that stand in no text."""
    entries = []
    start = 0
    in_text = False
    for place, sign in enumerate(line):
        if sign == '"':
            in_text = not in_text
        if sign == ";" and not in_text:
            entries.append(line[start:place])
            start = place + 1
    return [*entries, line[start:]]


def are_lines(lines):
    """Whether these lines have all as many entries, each of which is one of a page."""
    entries = [entry for line in lines for entry in line]
    if not all([entry == VEIL or is_written(entry) for entry in entries]):
        return False
    return all([len(line) == len(lines[0]) for line in lines])


def told_by(entry):
    """The value that an entry tells, "?" if it tells none."""
    return VEIL if entry == VEIL else read_value(entry)
