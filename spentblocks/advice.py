"""Which acts are good, which keys are hard, and where lives fall on the way."""

from spentblocks.errors import NotAsked, NotAtRest
from spentblocks.lasting import solved
from spentblocks.trails import trail


def good_acts(stand, *, most=20000):
    """The acts of an asked stand with which no life is lost, whatever is replied; none at the life 0."""
    if stand.asked() is None:
        raise NotAsked()
    solution = solved(stand, [()], most)
    many = solution.lives[0]
    if many == 0:
        return []
    ways = solution.game.ways[0]
    return [act for act, way in zip(stand.acts(), ways) if min(solution.by_reply(way)) >= many]


def hard_keys(stand, *, most=20000):
    """The keys of a stand at rest with which asked its life is not greater."""
    if stand.asked() is not None:
        raise NotAtRest()
    solution = solved(stand, [()], most)
    return [key for key, asked in enumerate(solution.game.ways[0]) if solution.lives[asked] == solution.lives[0]]


def falls(stand, row, *, most=20000):
    """The lives of all stands on the way of the row, in each the puts served till then added; None for ever."""
    way = trail(stand.shape(), row)
    solution = solved(stand, [()], most)
    lives = [(solution.life(solution.game.enter(shape, ())), served) for shape, served in way]
    return [None if many is None else many + served for many, served in lives]
