"""The least erases with which told puts are served, and a judge of rows of acts."""

from spentblocks.moves import is_act, is_served, shape_acts, shape_asked, shape_behind
from spentblocks.told import check_told, erases_left, is_last, told_game


def least_erases(stand, puts, *, most=20000):
    """A tuple (number of erases, acts) that serves all puts of the list; None if they cannot be served."""
    game = told_game(stand, puts, most)
    left = erases_left(game)
    if 0 not in left:
        return None
    return (left[0], least_acts(game, left))


def least_acts(game, left):
    """The acts that serve all puts with the least erases, from the view 0 on."""
    acts = []
    at = 0
    while not is_last(game, at):
        if game.is_rest(at):
            at = game.ways[at][0]
        else:
            act, at = best_step(game, left, at)
            acts.append(act)
    return acts


def best_step(game, left, at):
    """The first act with which the number of erases stays the least one, and the view behind it."""
    # Acts that are no erases take up free pages, so such steps cannot go round without an erase.
    steps = [(act, way[0]) for act, way in zip(game.acts(at), game.ways[at])]
    return [step for step in steps if left.get(step[1]) == left[at] - (1 if step[0][0] == "erase" else 0)][0]


def acts_fault(stand, puts, thing):
    """The first fault of the thing as a row of acts that serves all puts of the list, or None."""
    check_told(stand, puts)
    if not isinstance(thing, list):
        return ("form",)
    shape = stand.shape()
    served = 0
    for index, act in enumerate(thing):
        if shape[4] is None and served < len(puts):
            shape = shape_asked(shape, puts[served])
        # Behind the last put the stand is at rest, where it has no acts.
        if not is_act(act, shape_acts(shape)):
            return ("act", index)
        shape = shape_behind(shape, act, "done")
        served += 1 if is_served(act, "done") else 0
    return None if served == len(puts) else ("short", served)
