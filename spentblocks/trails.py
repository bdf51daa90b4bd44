"""Rows of what is made one after another from a stand on: keys that are asked, and tuples (act, reply)."""

from spentblocks.errors import NoRow
from spentblocks.moves import is_act, is_served, let_replies, shape_acts, shape_asked, shape_behind
from spentblocks.parts import is_key


def can_be_made(shape, item):
    """Whether this can be made at the shape: a key at rest, an act and a let reply while a put is asked."""
    if shape[4] is None:
        return is_key(item, shape[0])
    if not isinstance(item, tuple) or len(item) != 2:
        return False
    act, reply = item
    return is_act(act, shape_acts(shape)) and reply in let_replies(shape[2], shape[3])


def shape_made(shape, item):
    """The shape behind an item that can be made."""
    if shape[4] is None:
        return shape_asked(shape, item)
    return shape_behind(shape, item[0], item[1])


def served_by(item):
    """How many puts are served by an item that can be made."""
    return 1 if isinstance(item, tuple) and is_served(item[0], item[1]) else 0


def trail(shape, row):
    """The list of all shapes on the way, the first one with it, each as a tuple (shape, puts served till then)."""
    if not isinstance(row, list):
        raise NoRow(-1)
    found = [(shape, 0)]
    for index, item in enumerate(row):
        shape, served = found[-1]
        if not can_be_made(shape, item):
            raise NoRow(index)
        found.append((shape_made(shape, item), served + served_by(item)))
    return found
