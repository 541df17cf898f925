"""What cells hold, what their formulas mention, and which cells they need, also in all."""

from ledgerloom.places import cells_of_area, is_gone
from ledgerloom.trees import parts_of


def contents_of(sheets):
    """The contents of all cells that have one, by cell, ascending."""
    return {(name, row, column): content for name, _, _, cells in sheets for row, column, content in cells}


def tree_in(content):
    """The tree of a formula; None for a value, and where there is no content."""
    return content[1] if content is not None and content[0] == "=" else None


def things_in(tree):
    """The cells and areas that stand in a tree, itself among them, in order."""
    if tree[0] in ("cell", "area"):
        return [tree]
    return [thing for part in parts_of(tree) for thing in things_in(part)]


def mentioned_by(sheets, thing):
    """The cells that a cell or an area of a tree mentions; None alone, if it is gone."""
    if is_gone(sheets, thing):
        return [None]
    return [thing[1:]] if thing[0] == "cell" else cells_of_area(sheets, thing)


def mentions_of(sheets, tree):
    """What a tree mentions, each cell as often as it stands there, None for each thing that is gone."""
    return [cell for thing in things_in(tree) for cell in mentioned_by(sheets, thing)]


def needed_of(sheets, tree):
    """The cells that a tree mentions, ascending, each once."""
    # A tree may name one great area many times: it is told out once.
    things = list({thing: True for thing in things_in(tree)})
    return sorted({cell for thing in things for cell in mentioned_by(sheets, thing) if cell is not None})


def needed_by(sheets, content):
    """The cells that a cell with this content needs, ascending."""
    tree = tree_in(content)
    return [] if tree is None else needed_of(sheets, tree)


def needs_below(sheets, cells):
    """What each of these cells needs, and each that one of them needs in all, by cell."""
    contents = contents_of(sheets)
    found = {}
    waiting = list(cells)
    while waiting:
        cell = waiting.pop()
        if cell not in found:
            found[cell] = needed_by(sheets, contents.get(cell))
            waiting.extend(found[cell])
    return found


def in_all(needed):
    """All that each cell needs in all, ascending, of what each needs; only cells of which that is told count.

    A number for each cell has a bit for each one that is reached from it, over more and more of the cells
    between: so a hundred cells of which each needs all take no longer than others.
    """
    cells = sorted(needed)
    bits = {cell: 1 << place for place, cell in enumerate(cells)}
    ways = {cell: sum([bits.get(other, 0) for other in needed[cell]]) for cell in cells}
    for between in cells:
        for cell in cells:
            if ways[cell] & bits[between] != 0:
                ways[cell] = ways[cell] | ways[between]
    return {cell: [other for other in cells if ways[cell] & bits[other] != 0] for cell in cells}
