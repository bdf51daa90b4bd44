"""What lies in the pages of a chip: bytes, as tuples of integers."""

from spentblocks.parts import is_whole

MOST_CONTENT = 60
MOST_VALUE = 50


def are_bytes(thing, most):
    """Whether this is a tuple of no more than so many integers from 0 to 255."""
    return isinstance(thing, tuple) and len(thing) <= most and all([is_whole(byte, 0, 255) for byte in thing])


def is_written(thing):
    """Whether this is the content of a page that is not free."""
    return are_bytes(thing, MOST_CONTENT)


def is_value(thing):
    """Whether this is a value that a record can hold."""
    return are_bytes(thing, MOST_VALUE)
