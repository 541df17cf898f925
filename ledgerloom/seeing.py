"""What a person is shown: cells, the rows of views, and summaries."""

from ledgerloom.amounts import written
from ledgerloom.basics import checked_named, checked_person
from ledgerloom.clearness import is_open, values_clear
from ledgerloom.needing import contents_of, tree_in
from ledgerloom.places import cells_of, checked_cell
from ledgerloom.trees import print_of
from ledgerloom.views import groups_of_summary, rows_of_view


def seen(book, person, cell):
    """What the person is shown of a cell of the book."""
    checked_person(person)
    known_cell = checked_cell(book.sheets, cell)
    return seen_of(book, person, [known_cell])[known_cell]


def seen_of(book, person, cells):
    """The like of these cells of the book, by cell; for many at once what they need is gone through just once."""
    contents = contents_of(book.sheets)
    values = values_clear(book, person, cells)
    found = {}
    for cell in cells:
        if not is_open(book, person, cell):
            found[cell] = ("hidden",)
        elif cell in values:
            found[cell] = ("clear", told_of_content(book.sheets, contents.get(cell)), values[cell])
        else:
            found[cell] = ("veiled", told_of_content(book.sheets, contents.get(cell)))
    return found


def told_of_content(sheets, content):
    """The text of a content: a value as written, a formula as printed, nothing where there is none."""
    tree = tree_in(content)
    return written(content) if tree is None else "= " + print_of(sheets, tree)


def view_rows(book, person, name):
    """The rows that the view of this name shows to the person."""
    checked_person(person)
    view = checked_named(book.views, name)
    return rows_of_view(book.sheets, view, values_clear(book, person, cells_of(book.sheets)))


def summary_of(book, person, name):
    """The groups of the summary of this name, as far as the person may read."""
    checked_person(person)
    summary = checked_named(book.summaries, name)
    values = values_clear(book, person, cells_of(book.sheets))
    return groups_of_summary(book.sheets, book.views, summary, values)
