"""What calls make of the values of their members."""

from ledgerloom.amounts import is_below, is_error, number_value


def called(word, members):
    """What a call of this word makes of these values."""
    for member in members:
        if is_error(member):
            return member
    if word == "count":
        return ("number", len([member for member in members if member is not None]), 1)
    numbers = [member for member in members if is_number(member)]
    return sum_of(numbers) if word == "sum" else outermost(word, numbers)


def is_number(value):
    """Whether a value is a number."""
    return value is not None and value[0] == "number"


def sum_of(numbers):
    """The sum of these numbers, the error "size" if it is too long.

    It is reckoned as a whole, since sums of some of them may be too long where that of all is not;
    and ahead of all those with one divisor, since divisors grow with each further one.
    """
    parts = {}
    for _, p, q in numbers:
        parts[q] = parts.get(q, 0) + p
    up = 0
    down = 1
    for q, p in parts.items():
        up = up * q + p * down
        down = down * q
    return number_value(up, down)


def outermost(word, numbers):
    """The least or the greatest of these numbers, None if there are none."""
    found = None
    for number in numbers:
        if found is None or is_further(word, number, found):
            found = number
    return found


def is_further(word, number, found):
    """Whether a number is less than the one found, or for "most" greater."""
    return is_below(number, found) if word == "least" else is_below(found, number)
