"""What must be reckoned anew behind a change of a book, and a reckoner that does no more than that."""

from ledgerloom.basics import is_ascending, plain
from ledgerloom.errors import InvalidCell
from ledgerloom.meaning import pairs_of, values_of_all, values_with
from ledgerloom.needing import contents_of, mentions_of, needed_by, needs_below, tree_in
from ledgerloom.places import cells_of, checked_cell, is_cell


def changed(before, after):
    """The cells of the book after that hold something else, or mention something else, than in the book before."""
    old = contents_of(before.sheets)
    new = contents_of(after.sheets)
    return tuple([
        cell for cell in cells_of(after.sheets)
        if old.get(cell) != new.get(cell) or mentions_differ(before.sheets, after.sheets, new.get(cell))
    ])


def mentions_differ(before, after, content):
    """Whether it is a formula that mentions other things in the sheets before than in those after."""
    tree = tree_in(content)
    return tree is not None and mentions_of(before, tree) != mentions_of(after, tree)


def reached(book, cells):
    """These cells of the book, and all that need one of them in all."""
    if not are_ascending_cells(book.sheets, cells):
        raise InvalidCell(cells)
    needing = needing_by_cell(book.sheets)
    found = {}
    waiting = list(plain(cells))
    while waiting:
        cell = waiting.pop()
        if cell not in found:
            found[cell] = True
            waiting.extend(needing.get(cell, ()))
    return tuple(sorted(found))


def are_ascending_cells(sheets, value):
    """Whether it is an ascending tuple of cells of the sheets."""
    if not isinstance(value, tuple) or not all([is_cell(sheets, cell) for cell in value]):
        return False
    return is_ascending(value)


def needing_by_cell(sheets):
    """The cells that need a cell, by the cell that they need."""
    needed = needs_below(sheets, contents_of(sheets))
    found = {}
    for cell in needed:
        for other in needed[cell]:
            found.setdefault(other, []).append(cell)
    return found


class Reckoner:
    """Keeps the values of a book's cells; led to another book, it reckons only what can have changed."""

    def __init__(self, book):
        self.book = book
        self.known = values_of_all(book.sheets)

    def value(self, cell):
        """The value of a cell of the book."""
        return self.known.get(checked_cell(self.book.sheets, cell))

    def turn(self, book):
        """Leads to this book; the cells that were reckoned anew."""
        anew = reached(book, changed(self.book, book))
        self.known = values_turned(book.sheets, anew, self.known)
        self.book = book
        return anew

    def all_values(self):
        """The pairs of all cells with content and their values."""
        return pairs_of(self.book.sheets, self.known)


def values_turned(sheets, anew, known):
    """The values of all cells with content: those known, but for the cells that are reckoned anew."""
    contents = contents_of(sheets)
    kept = {cell: known[cell] for cell in contents if cell not in anew}
    return values_with(sheets, {cell: needed_by(sheets, contents.get(cell)) for cell in anew}, kept)
