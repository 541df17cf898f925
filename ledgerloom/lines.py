"""Putting in, taking out and moving rows and columns.

Rows and columns are told of alike: a side of a sheet is the place at which its rows (1) or its columns (2) stand.
"""

ROWS = 1
COLUMNS = 2


def put_behind(lines, place, fresh):
    """The lines with fresh ones behind the place, None if it is not there; without a place they stand first."""
    if place is not None and place not in lines:
        return None
    at = 0 if place is None else lines.index(place) + 1
    return lines[:at] + fresh + lines[at:]


def with_fresh_lines(sheet, side, place, fresh):
    """The sheet with fresh lines behind the place, None if that is not there, or one of the lines is."""
    if len([line for line in fresh if line in sheet[side]]) > 0:
        return None
    return with_lines(sheet, side, put_behind(sheet[side], place, fresh))


def with_line_moved(sheet, side, line, place):
    """The sheet with the line behind the place, None if one of the two is not there, or they are the same."""
    if line not in sheet[side]:
        return None
    return with_lines(sheet, side, put_behind(lines_but(sheet, side, line), place, (line,)))


def without_line(sheet, side, line):
    """The sheet without the line and its cells, None if it is not there."""
    if line not in sheet[side]:
        return None
    return with_lines(sheet, side, lines_but(sheet, side, line))


def lines_but(sheet, side, line):
    """The lines of the sheet but this one."""
    return tuple([other for other in sheet[side] if other != line])


def with_lines(sheet, side, lines):
    """The sheet with these lines and those of its cells that stand in them; None if there are no such lines."""
    if lines is None:
        return None
    name, rows, columns, cells = sheet
    # The mark of a cell's row stands one place ahead of where the sheet has its rows; so with columns.
    kept = tuple([cell for cell in cells if cell[side - 1] in lines])
    return (name, lines, columns, kept) if side == ROWS else (name, rows, lines, kept)
