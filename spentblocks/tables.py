"""Tables that show that told puts are not served with fewer erases."""

from spentblocks.errors import NoNumber
from spentblocks.moves import shape_acts, shape_asked, shape_behind
from spentblocks.parts import is_count, is_shape, is_whole
from spentblocks.told import check_told, erases_left, told_game

NEVER = 99


def erase_table(stand, puts, *, most=20000):
    """A table of the least number of erases with which the puts are served; of 99 if they cannot be served."""
    game = told_game(stand, puts, most)
    left = erases_left(game)
    asked = [at for at in range(len(game.views)) if not game.is_rest(at)]
    return {(len(puts) - 1 - len(game.row(at)), game.shape(at)): left.get(at, NEVER) for at in asked}


def table_fault(stand, puts, n, thing):
    """The first fault of the thing as a table of n for the stand and the puts, or None."""
    check_told(stand, puts)
    if not is_count(n):
        raise NoNumber()
    if not is_table_form(puts, thing):
        return ("form",)
    if not puts:
        return None if n == 0 else ("first",)
    if not has_number(thing, (0, shape_asked(stand.shape(), puts[0])), n):
        return ("first",)
    for entry in sorted(thing, key=str):
        act = wrong_act(puts, thing, entry)
        if act is not None:
            return ("act", entry, act)
    return None


def is_table_form(puts, thing):
    """Whether this is a dict from tuples (served, shape in which just that put is asked) to integers from 0 on."""
    if not isinstance(thing, dict):
        return False
    return all([is_entry(puts, entry) and is_count(thing[entry]) for entry in thing])


def is_entry(puts, entry):
    """Whether this is a tuple of a number of puts and the shape of a stand at which just the next one is asked."""
    if not isinstance(entry, tuple) or len(entry) != 2:
        return False
    served, shape = entry
    return is_whole(served, 0, len(puts) - 1) and is_shape(shape) and shape[4] == puts[served]


def has_number(thing, entry, number):
    """Whether the entry is there with this number or more."""
    return entry in thing and thing[entry] >= number


def wrong_act(puts, thing, entry):
    """The first act at an entry behind which the table is not as it has to be, or None."""
    _, shape = entry
    if thing[entry] == 0:
        return None
    for act in shape_acts(shape):
        if not is_kept(puts, thing, entry, act):
            return act
    return None


def is_kept(puts, thing, entry, act):
    """Whether, for the number of the entry, the table is right behind the act."""
    served, shape = entry
    behind = shape_behind(shape, act, "done")
    if act[0] == "erase":
        return has_number(thing, (served, behind), thing[entry] - 1)
    if act[0] == "copy":
        return has_number(thing, (served, behind), thing[entry])
    if served + 1 == len(puts):
        return False
    return has_number(thing, (served + 1, shape_asked(behind, puts[served + 1])), thing[entry])
