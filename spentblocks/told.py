"""Rows of puts that are told before: all that can be come to, and the least erases from there on."""

from spentblocks.errors import NoPuts, NotAtRest, NotCalm
from spentblocks.games import ToldGame
from spentblocks.parts import are_keys

MOST_PUTS = 20


def check_told(stand, puts):
    """Raises an error if no puts can be told of the stand, or these cannot."""
    if stand.asked() is not None:
        raise NotAtRest()
    if stand.fails() > 0 or stand.cuts() > 0:
        raise NotCalm()
    if not are_keys(puts, stand.many(), MOST_PUTS):
        raise NoPuts()


def told_game(stand, puts, most):
    """The game of the told puts, all views of it found; the first one has the number 0."""
    check_told(stand, puts)
    game = ToldGame(stand.many(), ["done"], most)
    game.enter(stand.shape(), tuple(puts))
    game.explore()
    return game


def erases_left(game):
    """A dict from those views from which all puts can be served to the least number of erases for that."""
    found = {}
    others, erases = steps_back(game)
    level = [at for at in range(len(game.views)) if is_last(game, at)]
    number = 0
    while level:
        new = spread(level, others, found)
        for at in new:
            found[at] = number
        level = [before for at in new for before in erases[at]]
        number += 1
    return found


def is_last(game, at):
    """Whether all puts are served in the view."""
    return game.is_rest(at) and not game.row(at)


def steps_back(game):
    """For each view the list of those from which a put, a write or a copy leads to it, and that for erases."""
    others = [[] for _ in game.views]
    erases = [[] for _ in game.views]
    for at, ways in enumerate(game.ways):
        if game.is_rest(at):
            for behind in ways:
                others[behind].append(at)
            continue
        for act, way in zip(game.acts(at), ways):
            steps = erases if act[0] == "erase" else others
            steps[way[0]].append(at)
    return others, erases


def spread(level, steps, found):
    """The views of the level, and those from which steps lead there, that are not found already; each once."""
    new = {}
    queue = list(level)
    while queue:
        at = queue.pop()
        if at not in found and at not in new:
            new[at] = True
            queue.extend(steps[at])
    return list(new)
