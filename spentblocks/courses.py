"""What a store comes to that makes the acts of a policy, and the shortest way to where it ends."""

from spentblocks.advisers import told_act
from spentblocks.games import Game
from spentblocks.moves import let_replies


class PolicyGame(Game):
    """The game in which the store makes just the acts of a policy; asked views have one way, or none."""

    def __init__(self, keys, replies, most, policy):
        Game.__init__(self, keys, replies, most)
        self._policy = policy

    def _answered(self, view):
        layout, _, _, asked, _ = view
        act = told_act(self.shape_in(view), self._policy)
        return [] if act is None else [self._way(view, self._layouts.end(layout, asked, act))]


def policy_game(stand, policy, most):
    """The game of the policy from the stand on, all views of it found."""
    game = PolicyGame(stand.many(), let_replies(stand.fails(), stand.cuts()), most, policy)
    game.enter(stand.shape(), ())
    game.explore()
    return game


def steps_on(game, at):
    """The list of all steps from a view on: tuples (key or reply, number of the view behind, whether it serves)."""
    _, fails, cuts, asked, _ = game.views[at]
    ways = game.ways[at]
    if asked is None:
        return [(key, behind, False) for key, behind in enumerate(ways)]
    replied = [(reply, behind) for way in ways for reply, behind in zip(let_replies(fails, cuts), way)]
    return [(reply, behind, reply == "done" and game.is_rest(behind)) for reply, behind in replied]


def done_behind(game, at):
    """The number of the view behind the policy's act and "done"; None at rest and without an act."""
    if game.is_rest(at) or not game.ways[at]:
        return None
    return game.ways[at][0][0]


def rounds(game):
    """A dict from the numbers of those views to which the acts come back, each replied to with "done"."""
    seen = {}
    found = {}
    for first in range(len(game.views)):
        at = first
        while at is not None and at not in seen:
            seen[at] = first
            at = done_behind(game, at)
        if at is None or seen[at] != first:
            continue
        while at not in found:
            found[at] = done_behind(game, at)
            at = found[at]
    return found


def least_end(game):
    """A tuple (puts served, row): how it ends behind the fewest puts; None if it goes on for ever."""
    circles = rounds(game)
    before = {}
    served = 0
    level = [(0, None, None)]
    while level:
        later = []
        while level:
            at, origin, item = level.pop()
            if at in before:
                continue
            before[at] = (origin, item)
            if not game.ways[at] or at in circles:
                return (served, row_to(before, at) + round_from(circles, at))
            for told, behind, serves in steps_on(game, at):
                goal = later if serves else level
                goal.append((behind, at, told))
        level = later
        served += 1
    return None


def row_to(before, at):
    """The row of keys and replies that leads to the view."""
    row = []
    origin, item = before[at]
    while origin is not None:
        row.append(item)
        origin, item = before[origin]
    return row[::-1]


def round_from(circles, at):
    """The replies with which the acts come back to the view, [] if they do not."""
    row = []
    behind = circles.get(at)
    while behind is not None:
        row.append("done")
        behind = None if behind == at else circles[behind]
    return row
