"""What a person is shown, told once more, as plainly as it goes: what the package shows is compared with this."""

from fractions import Fraction

from ledgerloom.amounts import written
from ledgerloom.trees import printed
from tests import model

GONE = ("error", "gone")


def is_open(book, person, cell):
    """Whether the person may read the column of a cell."""
    right = "write" if person == book.owner else "none"
    for who, name, column, word in book.rights:
        if person != book.owner and who in (person, "all") and name == cell[0] and column in (None, cell[2]):
            right = word
    return right != "none"


def clear_cells(book, person):
    """The set of the cells that are clear to the person."""
    needed = model.all_needs(book)
    return {
        cell for cell in needed if all(is_open(book, person, other) for other in {cell} | model.in_all(needed, cell))
    }


def paper_of(book, cell):
    """The paper for a cell."""
    values = model.values_of(book)
    return tuple((other, values[other]) for other in sorted({cell} | model.in_all(model.all_needs(book), cell)))


def seen(book, person, cell):
    """What is seen of a cell."""
    if not is_open(book, person, cell):
        return ("hidden",)
    content = model.content_of(book, cell)
    formula = content is not None and content[0] == "="
    told = f"= {printed(book, content[1])}" if formula else written(content)
    if cell not in clear_cells(book, person):
        return ("veiled", told)
    return ("clear", told, model.values_of(book)[cell])


def order_key(value):
    """What stands in the order of values where the value does."""
    if value is None:
        return (0,)
    inside = Fraction(value[1], value[2]) if value[0] == "number" else value[1]
    return (1 + ["number", "text", "truth", "error"].index(value[0]), inside)


def in_row(thing, name, row):
    """A condition, or any part of one, as it is asked of one row."""
    if not isinstance(thing, tuple):
        return thing
    if len(thing) == 2 and thing[0] == "here":
        return ("cell", name, row, thing[1])
    return tuple(in_row(part, name, row) for part in thing)


def view_rows(book, person, name):
    """The rows of a view."""
    _, sheet_name, condition, order = dict((view[0], view) for view in book.views)[name]
    clear = clear_cells(book, person)
    values = model.values_of(book)
    rows = [row for sheet in book.sheets if sheet[0] == sheet_name for row in sheet[1]]
    found = []
    for row in rows:
        asked = in_row(condition, sheet_name, row)
        mentioned = {cell for thing in model.things_in(asked) for cell in model.named_by(book, thing) or ()}
        if mentioned <= clear and model.meaning(book, asked, values) == ("truth", 1):
            found.append(row)
    # Sorted by the last column first: each sort leaves those that are alike for it as they stand.
    for column, word in reversed(order):
        cells = {row: (sheet_name, row, column) for row in found}
        keys = {row: order_key(values[cells[row]] if cells[row] in clear else None) for row in found}
        found.sort(key=keys.get, reverse=word == "down")
    return tuple(found)


def summary_of(book, person, name):
    """The groups of a summary."""
    _, view_name, key, total = dict((summary[0], summary) for summary in book.summaries)[name]
    sheet_names = [view[1] for view in book.views if view[0] == view_name]
    columns = [column for sheet in book.sheets if sheet[0] in sheet_names for column in sheet[2]]
    if key not in columns or total not in columns:
        return ()
    clear = clear_cells(book, person)
    values = model.values_of(book)
    pairs = [
        ((sheet_names[0], row, key), (sheet_names[0], row, total)) for row in view_rows(book, person, view_name)
    ]
    told = [(values[one], values[other]) for one, other in pairs if one in clear and other in clear]
    found = []
    for some_key in sorted({one for one, _ in told}, key=order_key):
        members = [other for one, other in told if one == some_key]
        numbers = [Fraction(other[1], other[2]) for other in members if other is not None and other[0] == "number"]
        found.append((some_key, len(members), model.value_from(sum(numbers, Fraction(0)))))
    return tuple(found)


def page(book, person, name):
    """The page of a sheet."""
    clear = clear_cells(book, person)
    values = model.values_of(book)
    _, rows, columns, _ = dict((sheet[0], sheet) for sheet in book.sheets)[name]
    lines = []
    for row in rows:
        cells = [(name, row, column) for column in columns]
        lines.append(";".join(written(values[cell]) if cell in clear else "?" for cell in cells))
    return "\n".join(lines)
