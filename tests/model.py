"""The meaning told once more, as plainly as it goes: what the package tells is compared with this."""

from fractions import Fraction
from itertools import product

GONE = ("error", "gone")


def content_of(book, cell):
    """The content of a cell, None if it has none, also if it is no cell of the book."""
    for name, _, _, cells in book.sheets:
        for row, column, content in cells:
            if (name, row, column) == cell:
                return content
    return None


def all_cells(book):
    """The cells of the book, ascending."""
    return sorted((name, row, column) for name, rows, columns, _ in book.sheets for row in rows for column in columns)


def named_by(book, thing):
    """The cells that a cell or an area of a tree names, in order, None if it is gone."""
    for name, rows, columns, _ in book.sheets:
        if name == thing[1]:
            corner_rows, corner_columns = set(thing[2::2]), set(thing[3::2])
            if not corner_rows <= set(rows) or not corner_columns <= set(columns):
                return None
            row_places = [rows.index(row) for row in corner_rows]
            column_places = [columns.index(column) for column in corner_columns]
            return [
                (name, row, column)
                for at, row in enumerate(rows) if min(row_places) <= at <= max(row_places)
                for place, column in enumerate(columns) if min(column_places) <= place <= max(column_places)
            ]
    return None


def things_in(tree):
    """The cells and areas of a tree, in the order in which they stand in it."""
    if tree[0] in ("cell", "area"):
        return [tree]
    parts = {"value": (), "minus": tree[1:], "op": tree[2:], "if": tree[1:], "call": tree[-1]}[tree[0]]
    return [thing for part in parts for thing in things_in(part)]


def mentions(book, cell):
    """What the formula of a cell mentions: a list for each cell and area, None for what is gone; () without formula."""
    content = content_of(book, cell)
    if content is None or content[0] != "=":
        return ()
    return [named_by(book, thing) for thing in things_in(content[1])]


def needs(book, cell):
    """The set of the cells that a cell needs."""
    return {other for found in mentions(book, cell) for other in found or ()}


def all_needs(book):
    """What each cell needs, by cell."""
    return {cell: needs(book, cell) for cell in all_cells(book)}


def in_all(needed, cell):
    """The set of the cells that a cell needs in all."""
    found = set()
    fresh = needed[cell]
    while fresh:
        found |= fresh
        fresh = {other for some in fresh for other in needed[some]} - found
    return found


def value_from(number):
    """The value of a fraction."""
    p, q = number.numerator, number.denominator
    return ("number", p, q) if max(abs(p), q) < 10 ** 15 else ("error", "size")


def fraction_from(value):
    """The fraction of a value that counts as a number, None for others."""
    if value is None:
        return Fraction(0)
    return Fraction(value[1], value[2]) if value[0] == "number" else None


def shown(value):
    """What is shown of a value that is no error."""
    if value is None:
        return ""
    if value[0] == "number":
        return str(Fraction(value[1], value[2]))
    return value[1] if value[0] == "text" else ["no", "yes"][value[1]]


def made_of(sign, one, other):
    """What a sign makes of two values."""
    for value in (one, other):
        if value is not None and value[0] == "error":
            return value
    if sign == "=":
        return ("truth", int(one == other))
    if sign == "&":
        text = shown(one) + shown(other)
        return ("text", text) if len(text) <= 40 else ("error", "size")
    if sign == "<" and one is not None and other is not None and one[0] == other[0] == "text":
        return ("truth", int(one[1] < other[1]))
    left, right = fraction_from(one), fraction_from(other)
    if left is None or right is None:
        return ("error", "kind")
    if sign == "<":
        return ("truth", int(left < right))
    if sign == "/":
        return ("error", "zero") if right == 0 else value_from(left / right)
    return value_from({"+": left + right, "-": left - right, "*": left * right}[sign])


def meaning(book, tree, values):
    """The meaning of a tree, by the values of all cells."""
    word = tree[0]
    if word == "value":
        return tree[1]
    if word == "cell":
        found = named_by(book, tree)
        return GONE if found is None else values[found[0]]
    if word == "minus":
        return made_of("-", ("number", 0, 1), meaning(book, tree[1], values))
    if word == "op":
        return made_of(tree[1], meaning(book, tree[2], values), meaning(book, tree[3], values))
    if word == "if":
        test, then, otherwise = [meaning(book, part, values) for part in tree[1:]]
        if test is not None and test[0] == "error":
            return test
        return {("truth", 1): then, ("truth", 0): otherwise}.get(test, ("error", "kind"))
    members = []
    for part in tree[2]:
        if part[0] == "area":
            found = named_by(book, part)
            members += [GONE] if found is None else [values[cell] for cell in found]
        else:
            members.append(meaning(book, part, values))
    return call_of(tree[1], members)


def call_of(word, members):
    """What a call makes of its members' values."""
    for member in members:
        if member is not None and member[0] == "error":
            return member
    if word == "count":
        return ("number", sum(member is not None for member in members), 1)
    numbers = [Fraction(member[1], member[2]) for member in members if member is not None and member[0] == "number"]
    if word == "sum":
        return value_from(sum(numbers, Fraction(0)))
    if not numbers:
        return None
    return value_from(min(numbers) if word == "least" else max(numbers))


def ring_cells(book):
    """The set of the cells on rings."""
    needed = all_needs(book)
    return {cell for cell in needed if cell in in_all(needed, cell)}


def values_of(book):
    """The values of all cells, by cell."""
    needed = all_needs(book)
    values = {cell: ("error", "ring") for cell in ring_cells(book)}
    left = [cell for cell in needed if cell not in values]
    while left:
        for cell in [cell for cell in left if all(other in values for other in needed[cell])]:
            content = content_of(book, cell)
            formula = content is not None and content[0] == "="
            values[cell] = meaning(book, content[1], values) if formula else content
        left = [cell for cell in left if cell not in values]
    return values


def changed(before, after):
    """The list of the cells of after that hold or mention something else than before."""
    there = set(all_cells(before))
    found = []
    for cell in all_cells(after):
        content = content_of(before, cell) if cell in there else None
        if content != content_of(after, cell) or mentions(before, cell) != mentions(after, cell):
            found.append(cell)
    return found


def reached(book, cells):
    """The list of these cells and of all that need one of them in all."""
    needed = all_needs(book)
    return [cell for cell in needed if cell in cells or in_all(needed, cell) & set(cells)]


def all_ways(book, deep):
    """The set of pairs of cells between which a way of at most so many mentions leads."""
    ways = {(cell, other) for cell, some in all_needs(book).items() for other in some}
    steps = set(ways)
    for _ in range(deep):
        ways = ways | {(one, last) for (one, some), (other, last) in product(ways, steps) if some == other}
    return ways
