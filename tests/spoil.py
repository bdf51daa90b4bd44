"""Spoils plans in their entries; their form stays right. Views or shapes are told apart by `shape_of`."""

from tests import slow

JUNK_ACTS = [None, (), [], "write", 5, True, ("write",), ("write", 9), ["write", 0], ("write", True), ("erase", False),
             ("copy", 0), ("copy", False, 1), ("done", 0)]
JUNK_REPLIES = [None, True, 0, "", "torn", ["done"], ("done",), ("cut", ())]
JUNK_CHOICES = [None, True, False, -1, 9, "0", (0,), [0], {}, [], {0: "done"}, {("write", 0): "done"}]


def copied(thing):
    """A copy of a plan, the dicts in it too."""
    return {spot: tuple(dict(part) if isinstance(part, dict) else part for part in entry)
            for spot, entry in thing.items()}


def spoilt_plan(rng, plan, shape_of):
    """A store's plan with one to three entries changed or taken away."""
    spoilt = copied(plan)
    for _ in range(rng.randint(1, 3)):
        if spoilt:
            spoil_plan_entry(rng, spoilt, rng.choice(sorted(spoilt, key=str)), shape_of)
    return spoilt


def spoil_plan_entry(rng, plan, spot, shape_of):
    promise, rank, act = plan[spot]
    shape = shape_of(spot)
    way = rng.choice(["lack", "promise", "promise", "rank", "rank", "act", "act"])
    if way == "lack":
        del plan[spot]
        return
    if way == "promise":
        promise = rng.choice([None, 0, 1, 2, 10 ** 29, (promise or 0) + 1, max(0, (promise or 0) - 1)])
    if way == "rank":
        rank = rng.choice([0, 1, rank + 1, max(0, rank - 1), 10 ** 29])
    if way == "act":
        act = rng.choice(JUNK_ACTS + slow.acts(shape) * 3)
    if promise == 0 or shape[4] is None:
        act = None
    plan[spot] = (promise, rank, act)


def spoilt_enemy_plan(rng, plan, shape_of):
    """An enemy's plan with one to three entries changed or taken away."""
    spoilt = copied(plan)
    for _ in range(rng.randint(1, 3)):
        if spoilt:
            spoil_enemy_entry(rng, spoilt, rng.choice(sorted(spoilt, key=str)), shape_of)
    return spoilt


def spoil_enemy_entry(rng, plan, spot, shape_of):
    limit, choice = plan[spot]
    shape = shape_of(spot)
    way = rng.choice(["lack", "limit", "limit", "choice", "junk"])
    if way == "lack":
        del plan[spot]
        return
    if way == "limit":
        limit = rng.choice([0, 1, limit + 1, max(0, limit - 1), 10 ** 29])
    if way == "junk":
        choice = rng.choice(JUNK_CHOICES)
    if way == "choice" and shape[4] is None:
        choice = rng.randrange(shape[0])
    if way == "choice" and isinstance(choice, dict) and choice:
        spoil_choice(rng, choice)
    plan[spot] = (limit, choice)


def spoil_choice(rng, choice):
    act = rng.choice(sorted(choice))
    way = rng.choice(["lack", "more", "reply", "reply", "junk", "flag"])
    if way == "lack":
        del choice[act]
    elif way == "more":
        choice[("write", 9)] = "done"
    elif way == "reply":
        choice[act] = rng.choice(slow.ORDER)
    elif way == "junk":
        choice[act] = rng.choice(JUNK_REPLIES)
    elif act[-1] < 2:
        choice[act[:-1] + (bool(act[-1]),)] = choice.pop(act)


# What is no dict of the right form, as a function of a right plan's first spot and entry.
def wrong_forms(spot, entry, wrong_spots, wrong_entries):
    """Things that have not the form: no dicts, and dicts with one wrong spot or entry."""
    found = [None, True, 0, "plan", [], (), [(spot, entry)], ((spot, entry),), {0: entry}, {None: entry}]
    # A wrong spot that is equal to the right one (True is 1) would not come in beside it.
    found += [{wrong: entry} for wrong in wrong_spots]
    found += [{spot: wrong} for wrong in wrong_entries]
    return found
