"""Which cells sheets have, where their rows and columns stand, and how cells and areas are printed by their places."""

from ledgerloom.basics import LETTERS, is_mark, is_tuple_of, named, plain
from ledgerloom.errors import InvalidCell


def is_cell(sheets, value):
    """Whether it is a cell of the sheets."""
    # Marks are looked at ahead: one with a bool in it would be found among those with integers there.
    if not is_tuple_of(value, 3) or not is_mark(value[1]) or not is_mark(value[2]):
        return False
    sheet = named(sheets, value[0])
    return sheet is not None and value[1] in sheet[1] and value[2] in sheet[2]


def checked_cell(sheets, cell):
    """The plain cell, which has to be one of the sheets."""
    if not is_cell(sheets, cell):
        raise InvalidCell(cell)
    return plain(cell)


def cells_of(sheets):
    """All cells of the sheets, ascending."""
    return sorted([(name, row, column) for name, rows, columns, _ in sheets for row in rows for column in columns])


def is_gone(sheets, tree):
    """Whether a cell or an area names a sheet, a row or a column that is not there."""
    sheet = named(sheets, tree[1])
    if sheet is None:
        return True
    _, rows, columns, _ = sheet
    there = [row in rows for row in rows_of(tree)] + [column in columns for column in columns_of(tree)]
    return not all(there)


def rows_of(tree):
    """The marks of rows that a cell or an area names."""
    return tree[2::2]


def columns_of(tree):
    """The marks of columns that a cell or an area names."""
    return tree[3::2]


def cells_of_area(sheets, area):
    """The cells of an area that is not gone, from the top, each row from the left."""
    _, rows, columns, _ = named(sheets, area[1])
    found_rows = between(rows, rows_of(area))
    found_columns = between(columns, columns_of(area))
    return [(area[1], row, column) for row in found_rows for column in found_columns]


def between(marks, corners):
    """The marks from the one of the two corners to the other, whichever stands first."""
    places = sorted([marks.index(corner) for corner in corners])
    return marks[places[0]:places[1] + 1]


def print_of_places(sheets, tree):
    """The print of a cell or an area."""
    if is_gone(sheets, tree):
        return "#gone"
    _, rows, columns, _ = named(sheets, tree[1])
    corners = []
    for row, column in zip(rows_of(tree), columns_of(tree)):
        letters = letters_of(columns.index(column) + 1)
        corners.append(f"{tree[1]}!{letters}{rows.index(row) + 1}")
    return ":".join(corners)


def letters_of(place):
    """The letters of a column's place, counted from 1: a to z, then aa, ab, and so on."""
    letters = ""
    while place > 0:
        place, letter = divmod(place - 1, 26)
        letters = LETTERS[letter] + letters
    return letters


def row_at(sheet, figures):
    """The mark of the row whose place is printed so, None if there is none."""
    for place, row in enumerate(sheet[1], start=1):
        if str(place) == figures:
            return row
    return None


def column_at(sheet, letters):
    """The mark of the column whose place is printed so, None if there is none."""
    for place, column in enumerate(sheet[2], start=1):
        if letters_of(place) == letters:
            return column
    return None
