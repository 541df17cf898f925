"""Where the rows and columns of sheets stand, and how cells and areas are printed by their places."""

from ledgerloom.basics import LETTERS


def sheet_named(sheets, name):
    """The sheet of this name, None if there is none."""
    for sheet in sheets:
        if sheet[0] == name:
            return sheet
    return None


def is_gone(sheets, tree):
    """Whether a cell or an area names a sheet, a row or a column that is not there."""
    sheet = sheet_named(sheets, tree[1])
    if sheet is None:
        return True
    _, rows, columns, _ = sheet
    there = [row in rows for row in rows_of(tree)] + [column in columns for column in columns_of(tree)]
    return not all(there)


def rows_of(tree):
    """The marks of rows that a cell or an area names."""
    return tree[2::2]


def columns_of(tree):
    """The marks of columns that a cell or an area names."""
    return tree[3::2]


def print_of_places(sheets, tree):
    """The print of a cell or an area."""
    if is_gone(sheets, tree):
        return "#gone"
    _, rows, columns, _ = sheet_named(sheets, tree[1])
    corners = []
    for row, column in zip(rows_of(tree), columns_of(tree)):
        letters = letters_of(columns.index(column) + 1)
        corners.append(f"{tree[1]}!{letters}{rows.index(row) + 1}")
    return ":".join(corners)


def letters_of(place):
    """The letters of a column's place, counted from 1: a to z, then aa, ab, and so on."""
    letters = ""
    while place > 0:
        place, letter = divmod(place - 1, 26)
        letters = LETTERS[letter] + letters
    return letters


def row_at(sheet, figures):
    """The mark of the row whose place is printed so, None if there is none."""
    for place, row in enumerate(sheet[1], start=1):
        if str(place) == figures:
            return row
    return None


def column_at(sheet, letters):
    """The mark of the column whose place is printed so, None if there is none."""
    for place, column in enumerate(sheet[2], start=1):
        if letters_of(place) == letters:
            return column
    return None
