"""How many puts a stand is sure to serve, and the two plans that show it."""

from spentblocks.lasting import solved
from spentblocks.plans import enemy_entries, store_entries


def life(stand, *, most=20000):
    """The greatest number of puts that the stand lasts, None for ever."""
    return solved(stand, [()], most).life(0)


def plan(stand, *, most=20000):
    """A plan of the stand's life: a dict from shapes to tuples (promise, rank, act)."""
    solution = solved(stand, [()], most)
    entries = store_entries(solution)
    return {solution.game.shape(at): entries[at] for at in entries}


def enemy_plan(stand, *, most=20000):
    """An enemy's plan to the stand's life, a dict from shapes to tuples (limit, choice); None if it lasts for ever."""
    solution = solved(stand, [()], most)
    if solution.life(0) is None:
        return None
    entries = enemy_entries(solution)
    return {solution.game.shape(at): entries[at] for at in entries}
