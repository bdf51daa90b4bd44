"""Spots: what plans are dicts from, shapes or (with keys known ahead) views of a shape and a row."""

from spentblocks.errors import NoPuts, NotAtRest
from spentblocks.moves import shape_asked, shape_behind
from spentblocks.parts import are_keys, is_key, is_shape

MOST_WINDOW = 3


class Shapes:
    """The shapes of stands as spots."""

    def has(self, thing):
        """Whether this is such a spot, made of just such items."""
        return is_shape(thing)

    def shape(self, spot):
        """The shape of the spot."""
        return spot

    def told(self, spot, key):
        """The spot in which a put is asked when, at rest, this key is told."""
        return shape_asked(spot, key)

    def behind(self, spot, act, reply):
        """The spot behind an act and a let reply."""
        return shape_behind(spot, act, reply)


class Views:
    """The tuples (shape, row) as spots, each row with as many keys as the window says."""

    def __init__(self, window):
        self._window = window

    def has(self, thing):
        """Whether this is such a spot, made of just such items."""
        if not isinstance(thing, tuple) or len(thing) != 2 or not is_shape(thing[0]):
            return False
        shape, row = thing
        return isinstance(row, tuple) and len(row) == self._window and all([is_key(key, shape[0]) for key in row])

    def shape(self, spot):
        """The shape of the spot."""
        return spot[0]

    def told(self, spot, key):
        """The spot in which a put is asked when, at rest, this key is told."""
        known = spot[1] + (key,)
        return (shape_asked(spot[0], known[0]), known[1:])

    def behind(self, spot, act, reply):
        """The spot behind an act and a let reply."""
        return (shape_behind(spot[0], act, reply), spot[1])


def first_view(stand, row):
    """The view of a stand at rest and a list of the puts to come."""
    if stand.asked() is not None:
        raise NotAtRest()
    if not are_keys(row, stand.many(), MOST_WINDOW):
        raise NoPuts()
    return (stand.shape(), tuple(row))
