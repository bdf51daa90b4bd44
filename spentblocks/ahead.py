"""What it is worth to know the next puts ahead."""

from spentblocks.errors import NoNumber, NotAtRest, TooMany
from spentblocks.lasting import FOREVER, solved
from spentblocks.parts import is_whole
from spentblocks.plans import enemy_entries, store_entries
from spentblocks.spots import MOST_WINDOW, first_view


def life_ahead(stand, row, *, most=20000):
    """The life of a stand at rest when the keys of the row are known to be asked next; None for ever."""
    return solved_ahead(stand, row, most).life(0)


def plan_ahead(stand, row, *, most=20000):
    """A plan ahead of this life: a dict from views to tuples (promise, rank, act)."""
    solution = solved_ahead(stand, row, most)
    return by_view(solution, store_entries(solution))


def enemy_ahead(stand, row, *, most=20000):
    """An enemy's plan ahead to this life, a dict from views to tuples (limit, choice); None if it is for ever."""
    solution = solved_ahead(stand, row, most)
    if solution.life(0) is None:
        return None
    return by_view(solution, enemy_entries(solution))


def solved_ahead(stand, row, most):
    """The solution of the game whose first view is that of the stand and the row."""
    _, known = first_view(stand, row)
    return solved(stand, [known], most)


def by_view(solution, entries):
    """The entries by their views instead of the numbers of these."""
    return {(solution.game.shape(at), solution.game.row(at)): entries[at] for at in entries}


def worths(stand, window, *, most=20000):
    """For each number of keys from 0 to the window the least life with so many known keys; None for ever."""
    if stand.asked() is not None:
        raise NotAtRest()
    if not is_whole(window, 0, MOST_WINDOW):
        raise NoNumber()
    least = []
    rows = [()]
    for _ in range(window + 1):
        worth = min(lives_of_rows(stand, rows, most))
        least.append(None if worth == FOREVER else worth)
        rows = [row + (key,) for row in rows for key in range(stand.many())]
    return least


def lives_of_rows(stand, rows, most):
    """The lives of the stand with each of the rows, FOREVER for ever."""
    try:
        # One game for all rows is far less work, as they soon come to the same views.
        return solved(stand, rows, most).lives[:len(rows)]
    except TooMany:
        return [solved(stand, [row], most).lives[0] for row in rows]
