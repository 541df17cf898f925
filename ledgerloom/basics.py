"""What every module asks of things: whether they are integers, names or marks, or ascending; and their plain copies."""

from ledgerloom.errors import InvalidName

LETTERS = "abcdefghijklmnopqrstuvwxyz"
FIGURES = "0123456789"
EVERYBODY = "all"
MOST_CLOCK = 999999
MOST_NUMBER = 99


def is_integer(value):
    """Whether it is an integer; a bool is none here."""
    return isinstance(value, int) and not isinstance(value, bool)


def is_number_to(value, most):
    """Whether it is an integer from 0 to most."""
    return is_integer(value) and 0 <= value <= most


def is_tuple_of(value, many):
    """Whether it is a tuple of so many members."""
    return isinstance(value, tuple) and len(value) == many


def is_name(value):
    """Whether it is a name: 1 to 8 letters from a to z."""
    if not isinstance(value, str) or not 1 <= len(value) <= 8:
        return False
    return all([letter in LETTERS for letter in value])


def is_person(value):
    """Whether it is the name of a person: a name but the one for everybody."""
    return is_name(value) and value != EVERYBODY


def is_mark(value):
    """Whether it is a mark: (clock, person, life, number)."""
    if not is_tuple_of(value, 4):
        return False
    clock, person, life, number = value
    if person != "" and not is_name(person):
        return False
    return is_number_to(clock, MOST_CLOCK) and is_number_to(life, MOST_NUMBER) and is_number_to(number, MOST_NUMBER)


def is_stamp(value):
    """Whether it is a stamp: (clock, person, life)."""
    if not is_tuple_of(value, 3):
        return False
    clock, person, life = value
    return is_number_to(clock, MOST_CLOCK) and clock > 0 and is_person(person) and is_number_to(life, MOST_NUMBER)


def is_ascending(things):
    """Whether each of these, which can be compared, is more than the one ahead of it."""
    return all([one < other for one, other in zip(things, things[1:])])


def named(things, name):
    """The one of these sheets, views or summaries that has this name, None if there is none."""
    for thing in things:
        if thing[0] == name:
            return thing
    return None


def checked_named(things, name):
    """The like of a name that has to be one of theirs."""
    thing = named(things, name)
    if thing is None:
        raise InvalidName(name)
    return thing


def is_same(value, known):
    """Whether it is the same as a known thing of plain tuples, strings, integers and None, with no bool in it."""
    if isinstance(known, tuple):
        if not is_tuple_of(value, len(known)):
            return False
        return all([is_same(member, part) for member, part in zip(value, known)])
    if known is None:
        return value is None
    return (is_integer(value) or isinstance(value, str)) and value == known


def plain(value):
    """The same thing, of plain tuples, strings and integers alone.

    A caller may pass tuples of a class of their own; what is returned to them never has one.
    """
    if isinstance(value, tuple):
        return tuple([plain(member) for member in value])
    if isinstance(value, str):
        return "".join([value])
    if is_integer(value):
        return int(value)
    return value


def checked_person(person):
    """The plain name of a person, which it has to be."""
    if not is_person(person):
        raise InvalidName(person)
    return plain(person)
