"""Judges plans of a store and of its enemy, whatever their spots are."""

from spentblocks.moves import is_act, is_served, let_replies, shape_acts
from spentblocks.parts import is_count, is_key


def store_fault(spots, first, n, thing):
    """The first fault of a store's plan of n for the first spot, or None."""
    if not is_store_form(spots, thing):
        return ("form",)
    if first not in thing or not reaches(thing[first][0], n):
        return ("first",)
    for spot in sorted(thing, key=str):
        fault = store_spot_fault(spots, spot, thing)
        if fault is not None:
            return fault
    return None


def is_store_form(spots, thing):
    """Whether this is a dict from spots to tuples (promise, rank, act), without acts where none may be."""
    if not isinstance(thing, dict):
        return False
    return all([spots.has(spot) and is_store_entry(spots.shape(spot), thing[spot]) for spot in thing])


def is_store_entry(shape, entry):
    """Whether this is a tuple (promise, rank, act) as it can stand at the shape."""
    if not isinstance(entry, tuple) or len(entry) != 3:
        return False
    promise, rank, act = entry
    if promise is not None and not is_count(promise) or not is_count(rank):
        return False
    return act is None or promise != 0 and shape[4] is not None


def reaches(promise, n):
    """Whether a promise is n or more; None is more than each integer."""
    return promise is None or n is not None and promise >= n


def store_spot_fault(spots, spot, thing):
    """The fault of a store's plan at one of its spots, or None."""
    promise, rank, act = thing[spot]
    shape = spots.shape(spot)
    if promise == 0:
        return None
    if shape[4] is None:
        return told_fault(spots, spot, thing)
    if not is_act(act, shape_acts(shape)):
        return ("act", spot)
    for reply in let_replies(shape[2], shape[3]):
        behind = thing.get(spots.behind(spot, act, reply))
        if behind is None or not keeps_promise(behind, promise, rank, act, reply):
            return ("reply", spot, reply)
    return None


def told_fault(spots, spot, thing):
    """The fault of a store's plan at a spot at rest: the first key behind which less is promised, or None."""
    for key in range(spots.shape(spot)[0]):
        asked = thing.get(spots.told(spot, key))
        if asked is None or not reaches(asked[0], thing[spot][0]):
            return ("key", spot, key)
    return None


def keeps_promise(behind, promise, rank, act, reply):
    """Whether the entry behind an act and a reply is as it has to be for this promise and rank."""
    if is_served(act, reply):
        return reaches(behind[0], promise if promise is None else promise - 1)
    if not reaches(behind[0], promise):
        return False
    return reply != "done" or behind[0] != promise or behind[1] < rank


def enemy_plan_fault(spots, first, n, thing):
    """The first fault of an enemy's plan to n for the first spot, or None."""
    if not is_enemy_form(spots, thing):
        return ("form",)
    if not is_within(thing, first, n):
        return ("first",)
    for spot in sorted(thing, key=str):
        fault = enemy_spot_fault(spots, spot, thing)
        if fault is not None:
            return fault
    return None


def is_enemy_form(spots, thing):
    """Whether this is a dict from spots to tuples (limit, anything)."""
    if not isinstance(thing, dict):
        return False
    return all([spots.has(spot) and is_enemy_entry(thing[spot]) for spot in thing])


def is_enemy_entry(entry):
    """Whether this is a tuple (limit, anything)."""
    return isinstance(entry, tuple) and len(entry) == 2 and is_count(entry[0])


def is_within(thing, spot, limit):
    """Whether the spot is there with this limit or less."""
    return spot in thing and thing[spot][0] <= limit


def enemy_spot_fault(spots, spot, thing):
    """The fault of an enemy's plan at one of its spots, or None."""
    limit, choice = thing[spot]
    shape = spots.shape(spot)
    if shape[4] is None:
        if not is_key(choice, shape[0]) or not is_within(thing, spots.told(spot, choice), limit):
            return ("key", spot)
        return None
    acts = shape_acts(shape)
    if not is_for_acts(choice, acts):
        return ("acts", spot)
    for act in acts:
        reply = choice[act]
        if reply not in let_replies(shape[2], shape[3]):
            return ("reply", spot, act)
        if not is_within(thing, spots.behind(spot, act, reply), limit - 1 if is_served(act, reply) else limit):
            return ("reply", spot, act)
    return None


def is_for_acts(choice, acts):
    """Whether this is a dict whose keys are just these acts, made of just such items."""
    if not isinstance(choice, dict) or len(choice) != len(acts) or not all([act in choice for act in acts]):
        return False
    return not any([isinstance(part, bool) for act in choice for part in act])
