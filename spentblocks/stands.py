"""Stands: what of a store matters for how long it can serve."""

from spentblocks.errors import NoAct, NoKey, NoReply, NoStand, NotAtRest
from spentblocks.moves import is_act, is_served, let_replies, places
from spentblocks.moves import shape_acts, shape_asked, shape_behind
from spentblocks.parts import MOST_BLOCKS, MOST_PAGES, is_key, is_shape, is_whole, wrong_part


class Stand:
    """Keys, blocks, and what can still be lost; at rest, or with a put that is asked. It does not change."""

    def __init__(self, keys, blocks, fails, cuts, *, asked=None):
        part = wrong_part(keys, blocks, fails, cuts, asked)
        if part is not None:
            raise NoStand(part)
        self._shape = (keys, tuple(blocks), fails, cuts, asked)

    def many(self):
        """The number of keys."""
        return self._shape[0]

    def blocks(self):
        """The list of the blocks, each a tuple (left, pages)."""
        return list(self._shape[1])

    def fails(self):
        """How many blocks may still go bad."""
        return self._shape[2]

    def cuts(self):
        """How often power may still be lost."""
        return self._shape[3]

    def asked(self):
        """The key of which a put is asked, or None at rest."""
        return self._shape[4]

    def where(self, key):
        """The tuple (block, page) of the key's current copy, or None."""
        if not is_key(key, self.many()):
            raise NoKey()
        return places(self._shape[1]).get(key)

    def shape(self):
        """All parts as one tuple."""
        return self._shape

    def __eq__(self, other):
        return isinstance(other, Stand) and self._shape == other._shape

    def put(self, key):
        """The stand in which a put of the key is asked."""
        if self.asked() is not None:
            raise NotAtRest()
        if not is_key(key, self.many()):
            raise NoKey()
        return stand_of(shape_asked(self._shape, key))

    def acts(self):
        """The list of all acts, in their order."""
        return shape_acts(self._shape)

    def replies(self, act):
        """The list of the replies that are let to the act, in their order."""
        if not is_act(act, self.acts()):
            raise NoAct()
        return let_replies(self.fails(), self.cuts())

    def after(self, act, reply):
        """The stand behind the act and the reply."""
        if reply not in self.replies(act):
            raise NoReply()
        return stand_of(shape_behind(self._shape, act, reply))

    def served(self, act, reply):
        """Whether the put is served by the act and the reply."""
        if reply not in self.replies(act):
            raise NoReply()
        return is_served(act, reply)


def stand_of(shape):
    """The stand with this shape."""
    if not is_shape(shape):
        raise NoStand("shape")
    keys, blocks, fails, cuts, asked = shape
    return Stand(keys, list(blocks), fails, cuts, asked=asked)


def fresh(keys, blocks, pages, left, fails, cuts):
    """The stand at rest with so many keys, none with a copy, and so many blocks, all free."""
    rows = []
    if is_whole(blocks, 1, MOST_BLOCKS) and is_whole(pages, 1, MOST_PAGES):
        rows = [(left, ("free",) * pages)] * blocks
    return Stand(keys, rows, fails, cuts)
