"""What each view of a game lasts, and how a store makes it so."""

from spentblocks.games import Game
from spentblocks.moves import free_pages, let_replies

FOREVER = 1000000000


class Solution:
    """By the number of a view: its life; for an asked one, the index of the act to make, and the rank of a plan."""

    def __init__(self, game):
        self.game = game
        self.lives = [FOREVER] * len(game.views)
        self.picks = [None] * len(game.views)
        self.ranks = [0] * len(game.views)

    def settle(self):
        """Finds all lives, stage by stage, so that those a way leads to are known before."""
        groups = {}
        for at in range(len(self.game.views)):
            groups.setdefault(stage(self.game, at), []).append(at)
        for key in sorted(groups):
            if can_go_round(self.game.blocks(groups[key][0])):
                Ring(self, groups[key]).settle()
            else:
                self._settle_apart(groups[key])

    def _settle_apart(self, group):
        for at in group:
            ways = self.game.ways[at]
            if self.game.is_rest(at):
                self.lives[at] = min([self.lives[way] for way in ways])
                continue
            worths = [min(self.by_reply(way)) for way in ways]
            self.lives[at] = max(worths, default=0)
            if worths:
                pick = worths.index(self.lives[at])
                self.choose(at, pick, self.rank_of(ways[pick]))

    def choose(self, at, pick, rank):
        """Keeps what to do in a view."""
        self.picks[at] = pick
        self.ranks[at] = rank

    def by_reply(self, way):
        """How many puts are sure with an act and each let reply, all of which lead to views with known lives."""
        # Behind "done" the stand is at rest only if the put was served.
        served = 1 if self.game.is_rest(way[0]) else 0
        return [self.lives[way[0]] + served] + [self.lives[behind] for behind in way[1:]]

    def rank_of(self, way):
        """A rank above that of the view behind the reply "done" (0 at rest)."""
        return self.ranks[way[0]] + 1

    def life(self, at):
        """The life of the view, None for ever."""
        return None if self.lives[at] == FOREVER else self.lives[at]

    def act(self, at):
        """The act to make in an asked view."""
        return self.game.acts(at)[self.picks[at]]


class Ring:
    """The asked views and those at rest of one stage in which some good block can be erased for ever.

    Ways lead back here, so the lives are found from below: for one number of puts after another, those views drop
    out that do not last so many. Till then a view has the life FOREVER.
    """

    def __init__(self, solution, group):
        self._solution = solution
        self._rests = [at for at in group if solution.game.is_rest(at)]
        self._asked = [at for at in group if not solution.game.is_rest(at)]
        self._options = {at: [] for at in self._asked}
        self._steps = {at: [] for at in self._asked}
        self._marks = {}
        for at in self._asked:
            self._take_ways(at)

    def _take_ways(self, at):
        """Keeps the acts that serve or leave the ring as options, the others as steps by where they lead."""
        solution = self._solution
        for pick, way in enumerate(solution.game.ways[at]):
            bound = min([solution.lives[behind] for behind in way[1:]], default=FOREVER)
            if way[0] in self._steps:
                self._steps[way[0]].append((at, pick, bound))
            elif solution.game.is_rest(way[0]):
                self._options[at].append((pick, bound, way[0]))
            else:
                bound = min(solution.by_reply(way))
                self._options[at].append((pick, bound, None))
            if bound < FOREVER:
                self._marks[bound + 1] = True

    def settle(self):
        """Finds the lives of the views of the ring."""
        goal = 1
        while goal is not None:
            if self._drop(goal):
                goal += 1
            else:
                # With the same views at rest nothing drops out again before a bound is passed.
                goal = min([mark for mark in self._marks if mark > goal], default=None)

    def _drop(self, goal):
        """Sets the lives of those views that do not last so many puts; returns whether some of them are at rest."""
        solution = self._solution
        lasting = self._lasting(goal)
        for at in self._asked:
            if at in lasting:
                solution.choose(at, lasting[at][0], lasting[at][1])
            else:
                solution.lives[at] = goal - 1
        rests = [at for at in self._rests if min([solution.lives[way] for way in solution.game.ways[at]]) >= goal]
        left = {at: True for at in rests}
        for at in self._rests:
            if at not in left:
                solution.lives[at] = goal - 1
        dropped = len(rests) < len(self._rests)
        self._asked = [at for at in self._asked if at in lasting]
        self._rests = rests
        return dropped

    def _lasting(self, goal):
        """A dict from the asked views that last so many puts to tuples (pick, rank)."""
        found = {}
        for at in self._asked:
            pick = self._option(at, goal)
            if pick is not None:
                found[at] = (pick, self._solution.rank_of(self._solution.game.ways[at][pick]))
        queue = list(found)
        taken = 0
        while taken < len(queue):
            after = queue[taken]
            rank = found[after][1] + 1
            for at, pick, bound in self._steps[after]:
                if bound >= goal and at not in found:
                    found[at] = (pick, rank)
                    queue.append(at)
            taken += 1
        return found

    def _option(self, at, goal):
        """The first act that serves or leaves the ring, and is sure of so many puts; None if there is none."""
        for pick, bound, rest in self._options[at]:
            if bound >= goal and (rest is None or self._solution.lives[rest] == FOREVER):
                return pick
        return None


def stage(game, at):
    """What orders the views: a way leads to a lesser stage, or within one in which blocks can go round for ever."""
    blocks = game.blocks(at)
    _, fails, cuts, _, _ = game.views[at]
    lefts = tuple([left if isinstance(left, int) else 0 for left, pages in blocks])
    if can_go_round(blocks):
        return (fails, cuts, lefts, -1, -1)
    return (fails, cuts, lefts, free_pages(blocks), 1 if game.is_rest(at) else 0)


def can_go_round(blocks):
    """Whether some good block can be erased for ever."""
    return any([left == "ever" for left, pages in blocks])


def solved(stand, rows, most):
    """The solution of the game from the stand with each of the rows; their views have the numbers from 0 on."""
    game = Game(stand.many(), let_replies(stand.fails(), stand.cuts()), most)
    for row in rows:
        game.enter(stand.shape(), row)
    game.explore()
    solution = Solution(game)
    solution.settle()
    return solution
