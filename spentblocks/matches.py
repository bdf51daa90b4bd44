"""Matches: games that are played from a stand on, and taken back."""

from spentblocks.errors import NoBack, NotAsked
from spentblocks.lasting import solved
from spentblocks.parts import is_whole
from spentblocks.trails import served_by


class Match:
    """A game from a stand: keys that are asked, and acts with their replies."""

    def __init__(self, stand):
        # One stand more than the row has items: the last one is where the game stands.
        self._stands = [stand]
        self._row = []

    def stand(self):
        """The stand at which the game is."""
        return self._stands[-1]

    def ask(self, key):
        """Asks a put of the key."""
        self._go_on(self.stand().put(key), key)

    def make(self, act, reply):
        """Makes an act, with this reply to it."""
        if self.stand().asked() is None:
            raise NotAsked()
        self._go_on(self.stand().after(act, reply), (act, reply))

    def served(self):
        """How many puts were served."""
        return sum([served_by(item) for item in self._row])

    def row(self):
        """The list of all that was made: keys, and tuples (act, reply)."""
        return list(self._row)

    def back(self, many):
        """Takes back the last items, so many of them."""
        if not is_whole(many, 1, len(self._row)):
            raise NoBack()
        del self._row[-many:]
        del self._stands[-many:]

    def __len__(self):
        return len(self._row)

    def tried(self, action):
        """What the function returns, called with the match; then all is put back to what it was."""
        stands, row = list(self._stands), list(self._row)
        try:
            return action(self)
        finally:
            self._stands, self._row = stands, row

    def best(self, *, most=20000):
        """The least hard key at rest; a good act that leads to serving a put that is asked; None at the life 0."""
        solution = solved(self.stand(), [()], most)
        least = solution.lives[0]
        if least == 0:
            return None
        if self.stand().asked() is not None:
            return solution.act(0)
        return [solution.lives[asked] for asked in solution.game.ways[0]].index(least)

    def _go_on(self, stand, item):
        self._stands.append(stand)
        self._row.append(item)
