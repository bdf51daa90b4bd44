"""Records: contents of pages that hold a value of a key, with a number and a check."""

from spentblocks.contents import MOST_VALUE, is_value, is_written
from spentblocks.errors import NoContent, NoRecord
from spentblocks.parts import MOST_KEYS, is_key, is_whole

FIRST_BYTE = 165
MOST_NUMBER = 4294967295
# What stands ahead of a value (first byte, key, number, length) and behind it (the check).
AHEAD = 7
BEHIND = 2


def record(key, number, value):
    """The content that holds the value of the key under this number."""
    if not is_key(key, MOST_KEYS) or not is_whole(number, 1, MOST_NUMBER) or not is_value(value):
        raise NoRecord()
    body = (FIRST_BYTE, key) + bytes_of(number, 4) + (len(value),) + value
    return body + bytes_of(check_of(body), BEHIND)


def bytes_of(number, many):
    """The number in so many bytes, the greatest first."""
    found = ()
    for _ in range(many):
        found = (number % 256,) + found
        number = number // 256
    return found


def number_of(parts):
    """The number that these bytes make, the greatest first."""
    number = 0
    for byte in parts:
        number = number * 256 + byte
    return number


def check_of(parts):
    """The number by which it is seen whether these bytes are whole."""
    check = 1
    for byte in parts:
        check = (check * 31 + byte) % 65521
    return check


def read_record(content):
    """The tuple (key, number, value) of a record; None for another content."""
    if content is None:
        return None
    if not is_written(content):
        raise NoContent()
    if len(content) < AHEAD + BEHIND:
        return None
    key, number, value = content[1], number_of(content[2:6]), content[AHEAD:-BEHIND]
    if key >= MOST_KEYS or number == 0 or len(value) > MOST_VALUE:
        return None
    return (key, number, value) if record(key, number, value) == content else None
