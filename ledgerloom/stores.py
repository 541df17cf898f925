"""Stores of steps: rows of bytes that may be cut anywhere."""

from ledgerloom.basics import is_number_to, plain
from ledgerloom.errors import InvalidBytes, InvalidStamp, InvalidText, InvalidValue
from ledgerloom.steps import are_few_steps, by_stamp, in_step_order, is_step
from ledgerloom.telling import Hearer, is_plain_value, text_told

LONGEST_TOLD = 30000
GREATEST_BYTE = 255
# The signs of the numbers from the blank's on; for the two that no text told has a line feed stands in, which has none.
FIRST_SIGN = 32
SIGNS = " !\"#$\n&'()*+,-./0123456789:;<=>?@ABCDEFGHIJKLMNOPQRSTUVWXYZ[\n]^_`abcdefghijklmnopqrstuvwxyz{|}~"
LENGTH_BYTES = 3
CHECK_BYTES = 2
CHECK_START = 65535
CHECK_BOUND = 65536
CHECK_TOP = 32768
CHECK_SIGNS = 4129


def told_of(value):
    """The text of a plain value."""
    if not is_plain_value(value, 0):
        raise InvalidValue(value)
    text = text_told(plain(value))
    if len(text) > LONGEST_TOLD:
        raise InvalidValue(value)
    return text


def value_told(text):
    """The plain value that is told so."""
    if not isinstance(text, str) or len(text) > LONGEST_TOLD:
        raise InvalidText(text)
    value = Hearer(text).read_told(0)
    # Only the way back tells that nothing but the one way of telling is let.
    if not is_plain_value(value, 0) or text_told(value) != text:
        raise InvalidText(text)
    return value


def stored(steps):
    """The store of these steps."""
    if not are_few_steps(steps):
        raise InvalidStamp(steps)
    return store_of_steps(plain(steps))


def store_of_steps(steps):
    """The records of these plain steps, one behind the other."""
    table = check_table()
    return tuple([number for step in steps for number in record_of(step, table)])


def record_of(step, table):
    """The bytes of the record of a step."""
    signs = [ord(sign) for sign in text_told(step)]
    record = bytes_of(len(signs), LENGTH_BYTES) + signs
    return record + bytes_of(check_of(record, table), CHECK_BYTES)


def bytes_of(number, many):
    """The number in so many bytes, the greatest first."""
    return [(number >> (8 * place)) & GREATEST_BYTE for place in reversed(range(many))]


def number_of(row):
    """The number that these bytes are, the greatest first."""
    number = 0
    for byte in row:
        number = (number << 8) + byte
    return number


def check_of(row, table):
    """The check of these bytes."""
    number = CHECK_START
    for byte in row:
        # The upper eight bits go out against those of the byte: what they change below, the table tells at once.
        number = ((number << 8) & CHECK_START) ^ table[(number >> 8) ^ byte]
    return number


def check_table():
    """For each byte what the check becomes by eight bits, of a number that has only these as its upper ones."""
    return [check_behind(byte << 8) for byte in range(GREATEST_BYTE + 1)]


def check_behind(number):
    """The number behind eight bits 0."""
    for _ in range(8):
        if number >= CHECK_TOP:
            number = (number * 2 - CHECK_BOUND) ^ CHECK_SIGNS
        else:
            number = number * 2
    return number


def recovered(row):
    """The steps of the whole and right records at the beginning, and the number of their bytes."""
    if not isinstance(row, tuple) or not all([is_number_to(byte, GREATEST_BYTE) for byte in row]):
        raise InvalidBytes(row)
    table = check_table()
    steps = []
    used = 0
    record = record_at(row, used)
    step = step_in(record, table)
    while step is not None:
        steps.append(step)
        used += len(record)
        record = record_at(row, used)
        step = step_in(record, table)
    return (tuple(steps), used)


def record_at(row, start):
    """The bytes of the record that begins there, fewer if it is cut."""
    head = row[start:start + LENGTH_BYTES]
    return row[start:start + LENGTH_BYTES + number_of(head) + CHECK_BYTES]


def step_in(record, table):
    """The step of a record, None if it is not whole and right."""
    body = record[:-CHECK_BYTES]
    if number_of(body[:LENGTH_BYTES]) != len(body) - LENGTH_BYTES:
        return None
    if number_of(record[-CHECK_BYTES:]) != check_of(body, table):
        return None
    return step_told(body[LENGTH_BYTES:])


def step_told(row):
    """The step that is told by the characters of these numbers, None if none is."""
    if not all([FIRST_SIGN <= number < FIRST_SIGN + len(SIGNS) for number in row]):
        return None
    try:
        step = value_told("".join([SIGNS[number - FIRST_SIGN] for number in row]))
    except InvalidText:
        return None
    return step if is_step(step) else None


def tidied(steps):
    """These steps ascending, equal ones once."""
    deeds = by_stamp(plain(steps)) if are_few_steps(steps) else None
    if deeds is None:
        raise InvalidStamp(steps)
    return in_step_order(deeds)
