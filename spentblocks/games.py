"""All views that can be come to: stands, each with the puts to come that are known (none, in the plain case)."""

from spentblocks.errors import NoMost, TooMany
from spentblocks.moves import acts_on, blocks_behind, is_served
from spentblocks.parts import is_whole

MOST_STANDS = 100000


class Layouts:
    """Blocks as stands have them, numbered: most views share theirs with many others."""

    def __init__(self, replies):
        self._replies = replies
        self._numbers = {}
        self._acts = {}
        self._ends = {}
        self.rows = []

    def number(self, blocks):
        """The number of these blocks."""
        if blocks not in self._numbers:
            self._numbers[blocks] = len(self.rows)
            self.rows.append(blocks)
        return self._numbers[blocks]

    def acts(self, layout):
        """All acts while a put is asked, in their order."""
        if layout not in self._acts:
            self._acts[layout] = acts_on(self.rows[layout])
        return self._acts[layout]

    def ends(self, layout, asked):
        """For each act, in their order: what `end` tells."""
        if (layout, asked) not in self._ends:
            self._ends[(layout, asked)] = [self.end(layout, asked, act) for act in self.acts(layout)]
        return self._ends[(layout, asked)]

    def end(self, layout, asked, act):
        """Whether "done" serves the put, and a dict from the replies to the layouts behind the act."""
        blocks = self.rows[layout]
        behind = {reply: self.number(blocks_behind(blocks, asked, act, reply)) for reply in self._replies}
        return (is_served(act, "done"), behind)


class Game:
    """The views that can be come to from some first ones, numbered as they are found, and the ways between them.

    A view is a tuple (layout, fails, cuts, asked, row). Its ways are, at rest, the numbers of the views behind each
    key that is told; while a put is asked, for each act the list of the numbers of the views behind the let replies.
    """

    def __init__(self, keys, replies, most):
        if not is_whole(most, 1, MOST_STANDS):
            raise NoMost()
        self._keys = keys
        self._most = most
        self._numbers = {}
        self._layouts = Layouts(replies)
        self.views = []
        self.ways = []

    def enter(self, shape, row):
        """Numbers the view of this shape and row, if it is new; returns its number."""
        _, blocks, fails, cuts, asked = shape
        return self._number((self._layouts.number(blocks), fails, cuts, asked, row))

    def explore(self):
        """Finds all views that can be come to from those that are there."""
        while len(self.ways) < len(self.views):
            view = self.views[len(self.ways)]
            self.ways.append(self._told(view) if view[3] is None else self._answered(view))

    def _number(self, view):
        at = self._numbers.get(view)
        if at is not None:
            return at
        if len(self.views) == self._most:
            raise TooMany(self._most)
        self._numbers[view] = len(self.views)
        self.views.append(view)
        return self._numbers[view]

    def _told(self, view):
        layout, fails, cuts, _, row = view
        known = [row + (key,) for key in range(self._keys)]
        return [self._number((layout, fails, cuts, keys[0], keys[1:])) for keys in known]

    def _answered(self, view):
        layout, _, _, asked, _ = view
        return [self._way(view, end) for end in self._layouts.ends(layout, asked)]

    def _way(self, view, end):
        _, fails, cuts, asked, row = view
        serves, behind = end
        way = [self._number((behind["done"], fails, cuts, None if serves else asked, row))]
        if fails > 0:
            way.append(self._number((behind["bad"], fails - 1, cuts, asked, row)))
        if cuts > 0:
            way.append(self._number((behind["cut"], fails, cuts - 1, None, row)))
            way.append(self._number((behind["late"], fails, cuts - 1, None, row)))
        return way

    def is_rest(self, at):
        """Whether the view is at rest."""
        return self.views[at][3] is None

    def acts(self, at):
        """All acts at the asked view, in the order of its ways."""
        return self._layouts.acts(self.views[at][0])

    def blocks(self, at):
        """The blocks of the view, as a tuple."""
        return self._layouts.rows[self.views[at][0]]

    def shape(self, at):
        """The shape of the view."""
        return self.shape_in(self.views[at])

    def shape_in(self, view):
        """The shape in a tuple of a view."""
        layout, fails, cuts, asked, _ = view
        return (self._keys, self._layouts.rows[layout], fails, cuts, asked)

    def row(self, at):
        """The puts to come that are known in the view."""
        return self.views[at][4]


class ToldGame(Game):
    """The game in which just the puts of the row are asked, one after another."""

    def _told(self, view):
        layout, fails, cuts, _, row = view
        return [self._number((layout, fails, cuts, row[0], row[1:]))] if row else []
