"""Which rows a view shows, in which order, and what a summary makes of them, once it is known what is clear.

Everywhere the values are those of the clear cells alone: so nothing can come to hang on any other one.
"""

from ledgerloom.amounts import is_ahead
from ledgerloom.basics import named
from ledgerloom.calls import is_number, sum_of
from ledgerloom.meaning import YES, meaning_of
from ledgerloom.needing import needed_of


def rows_of_view(sheets, view, values):
    """The rows that a view shows, in its order; none if its sheet is not there."""
    _, name, condition, order = view
    sheet = named(sheets, name)
    if sheet is None:
        return ()
    rows = [row for row in sheet[1] if is_let(sheets, in_row(condition, name, row), values)]
    columns = [values_down(name, rows, column, values) for column, _ in order]
    return tuple([rows[place] for place in places_by(columns, [word for _, word in order], len(rows))])


def is_let(sheets, condition, values):
    """Whether the condition means yes, and all that it mentions is clear."""
    is_clear = all([cell in values for cell in needed_of(sheets, condition)])
    return is_clear and meaning_of(sheets, condition, values) == YES


def in_row(tree, name, row):
    """A tree or an area with the cells of this row of this sheet in place of each "here"."""
    word = tree[0]
    if word == "here":
        return ("cell", name, row, tree[1])
    if word == "call":
        return ("call", tree[1], tuple([in_row(part, name, row) for part in tree[2]]))
    if word == "op":
        return ("op", tree[1], in_row(tree[2], name, row), in_row(tree[3], name, row))
    if word in ("minus", "if"):
        parts = [in_row(part, name, row) for part in tree[1:]]
        return (word, *parts)
    return tree


def values_down(name, rows, column, values):
    """The values in a column of these rows of a sheet, None where there is no clear cell."""
    return [values.get((name, row, column)) for row in rows]


def places_by(columns, words, many):
    """The places of so many lines, ordered by their values in each of the columns, at last as they stand."""
    ranks = [ranks_in(column, word) for column, word in zip(columns, words)]
    found = sorted([([rank[place] for rank in ranks], place) for place in range(many)])
    return [place for _, place in found]


def ranks_in(column, word):
    """For each of these values, how many of them stand ahead of it, "up" or "down"."""
    if word == "up":
        return [len([other for other in column if is_ahead(other, value)]) for value in column]
    return [len([other for other in column if is_ahead(value, other)]) for value in column]


def groups_of_summary(sheets, views, summary, values):
    """The groups of a summary; none if something that it names is not there."""
    _, view_name, key, total = summary
    view = named(views, view_name)
    if view is None:
        return ()
    groups = {}
    for row in rows_of_view(sheets, view, values):
        key_cell = (view[1], row, key)
        total_cell = (view[1], row, total)
        # So a column that is not there makes no group: it has no cells.
        if key_cell in values and total_cell in values:
            groups.setdefault(values[key_cell], []).append(values[total_cell])
    return tuple([group_of(value, groups[value]) for value in in_order(list(groups))])


def in_order(keys):
    """These values, none of them twice, in their order."""
    return [keys[place] for place in places_by([keys], ["up"], len(keys))]


def group_of(key, members):
    """The group of a key, of which these are the values in the column that is summed."""
    return (key, len(members), sum_of([value for value in members if is_number(value)]))
