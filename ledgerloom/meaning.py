"""The meaning: the value of each cell, which cells are on rings, and what cells need."""

from ledgerloom.amounts import ZERO, is_error, result_of
from ledgerloom.calls import called
from ledgerloom.needing import contents_of, in_all, needed_by, needs_below, tree_in
from ledgerloom.places import cells_of_area, checked_cell, is_gone

GONE = ("error", "gone")
RING = ("error", "ring")
KIND = ("error", "kind")
YES = ("truth", 1)
NO = ("truth", 0)


def value_of(book, cell):
    """The value of a cell of the book."""
    known_cell = checked_cell(book.sheets, cell)
    values = values_with(book.sheets, needs_below(book.sheets, [known_cell]), {})
    return values[known_cell]


def all_values(book):
    """The pairs of all cells with content and their values."""
    return pairs_of(book.sheets, values_of_all(book.sheets))


def on_rings(book):
    """The cells on rings."""
    wide = in_all(needs_below(book.sheets, contents_of(book.sheets)))
    return tuple([cell for cell in wide if cell in wide[cell]])


def needs(book, cell):
    """The cells that a cell of the book needs."""
    known_cell = checked_cell(book.sheets, cell)
    return tuple(needed_by(book.sheets, contents_of(book.sheets).get(known_cell)))


def needs_in_all(book, cell):
    """The cells that a cell of the book needs in all."""
    known_cell = checked_cell(book.sheets, cell)
    return tuple(in_all(needs_below(book.sheets, [known_cell]))[known_cell])


def values_of_all(sheets):
    """The values of all cells with content, by cell."""
    return values_with(sheets, needs_below(sheets, contents_of(sheets)), {})


def pairs_of(sheets, values):
    """The pairs of all cells with content and their values, which are told by cell."""
    return tuple([(cell, values[cell]) for cell in contents_of(sheets)])


def values_with(sheets, needed, known):
    """The known values, and behind them those of the cells of which it is told what they need.

    Whatever these need must be among them, or known, or without content; and no ring may lead through
    both these and known ones.
    """
    contents = contents_of(sheets)
    wide = in_all(needed)
    values = {cell: known[cell] for cell in known}
    for cell in wide:
        if cell in wide[cell]:
            values[cell] = RING
    # Off rings a cell needs more in all than each one that it needs: so whatever it needs comes ahead.
    for _, cell in sorted([(len(wide[cell]), cell) for cell in wide if cell not in wide[cell]]):
        values[cell] = value_by(sheets, contents.get(cell), values)
    return values


def value_by(sheets, content, values):
    """The value of a cell with this content that is on no ring."""
    tree = tree_in(content)
    return content if tree is None else meaning_of(sheets, tree, values)


def meaning_of(sheets, tree, values):
    """The meaning of a tree, the values of cells being these, None where none is told."""
    word = tree[0]
    if word == "value":
        return tree[1]
    if word == "cell":
        return GONE if is_gone(sheets, tree) else values.get(tree[1:])
    if word == "minus":
        return result_of("-", ZERO, meaning_of(sheets, tree[1], values))
    if word == "op":
        return result_of(tree[1], meaning_of(sheets, tree[2], values), meaning_of(sheets, tree[3], values))
    if word == "if":
        return meaning_of_if(sheets, tree, values)
    return called(tree[1], values_of_members(sheets, tree[2], values))


def meaning_of_if(sheets, tree, values):
    """The meaning of an "if"."""
    test = meaning_of(sheets, tree[1], values)
    if test == YES:
        return meaning_of(sheets, tree[2], values)
    if test == NO:
        return meaning_of(sheets, tree[3], values)
    return test if is_error(test) else KIND


def values_of_members(sheets, members, values):
    """The values of the members of a call, in order, those of areas told out."""
    found = []
    for member in members:
        if member[0] != "area":
            found.append(meaning_of(sheets, member, values))
        elif is_gone(sheets, member):
            found.append(GONE)
        else:
            found.extend([values.get(cell) for cell in cells_of_area(sheets, member)])
    return found
