"""A slow reckoning of the tests' own, straight from the document, over shapes and views alone.

It shares no code with the package: what both find independently is compared.
"""

import itertools
import random

ORDER = ("done", "bad", "cut", "late")


def where(shape):
    """The place of each key that has a copy."""
    return {page: (b, p) for b, (left, pages) in enumerate(shape[1])
            for p, page in enumerate(pages) if type(page) is int}


def acts(shape):
    """All acts at a shape, by the letter of [7]."""
    keys, blocks, fails, cuts, asked = shape
    if asked is None:
        return []
    held = where(shape)
    good = [b for b in range(len(blocks)) if blocks[b][0] is not None]
    writes = [("write", b) for b in good if "free" in blocks[b][1]]
    copies = [("copy", key, b) for key in range(keys) if key in held
              for b in good if "free" in blocks[b][1] and held[key][0] != b]
    erases = []
    for b in good:
        left, pages = blocks[b]
        if (left == "ever" or left > 0) and not any(held[k][0] == b for k in held) and set(pages) != {"free"}:
            erases.append(("erase", b))
    return writes + copies + erases


def replies(shape):
    """The let replies, by [8]."""
    let = {"done": True, "bad": shape[2] > 0, "cut": shape[3] > 0, "late": shape[3] > 0}
    return [reply for reply in ORDER if let[reply]]


def after(shape, act, reply):
    """The shape behind an act and a reply, and whether the put is served, by [8]."""
    keys, blocks, fails, cuts, asked = shape
    rows = [[left, list(pages)] for left, pages in blocks]
    b = act[-1]
    served = False
    if reply == "bad":
        rows[b] = [None, ["old" if page == "free" else page for page in rows[b][1]]]
        fails -= 1
    elif act[0] == "erase":
        rows[b][1] = ["old" if reply == "cut" else "free"] * len(rows[b][1])
        if rows[b][0] != "ever":
            rows[b][0] -= 1
    else:
        key = asked if act[0] == "write" else act[1]
        at = rows[b][1].index("free")
        if reply == "cut":
            rows[b][1][at] = "old"
        else:
            if key in where(shape):
                block, page = where(shape)[key]
                rows[block][1][page] = "old"
            rows[b][1][at] = key
            served = act[0] == "write" and reply == "done"
    if reply in ("cut", "late"):
        cuts -= 1
    if served or reply in ("cut", "late"):
        asked = None
    return (keys, tuple((left, tuple(pages)) for left, pages in rows), fails, cuts, asked), served


def told(view, key):
    """The view behind a key that is told at rest, by [34]; with an empty row the key is asked at once."""
    shape, row = view
    known = row + (key,)
    return shape[:4] + (known[0],), known[1:]


def ways(view):
    """For each key or act the list of (view behind, puts served)."""
    shape, row = view
    if shape[4] is None:
        return {key: [(told(view, key), 0)] for key in range(shape[0])}
    found = {}
    for act in acts(shape):
        found[act] = []
        for reply in replies(shape):
            behind, served = after(shape, act, reply)
            found[act].append(((behind, row), int(served)))
    return found


def reach(first, ways_on=ways):
    """A dict from all views that can be come to, to their ways."""
    found = {first: ways_on(first)}
    queue = [first]
    while queue:
        for ends in found[queue.pop()].values():
            for view, served in ends:
                if view not in found:
                    found[view] = ways_on(view)
                    queue.append(view)
    return found


def more(graph, lasting):
    """Those that last one put more than `lasting`: reached by finitely many acts without serving."""
    good = set()
    grows = True
    while grows:
        grows = False
        for view, by in graph.items():
            if view in good:
                continue
            fits = [all(end in (lasting if served else good) for end, served in ends) for ends in by.values()]
            if (all(fits) if view[0][4] is None else any(fits)):
                good.add(view)
                grows = True
    return good


def lives(first, ways_on=ways):
    """The life of each view that can be come to, None for ever, number by number."""
    graph = reach(first, ways_on)
    found = {}
    lasting = set(graph)
    n = 0
    while True:
        next_ones = more(graph, lasting)
        for view in lasting - next_ones:
            found[view] = n
        if next_ones == lasting:
            found.update({view: None for view in lasting})
            return found
        lasting = next_ones
        n += 1


def life(shape, row=()):
    """The life of a stand."""
    return lives((shape, tuple(row)))[(shape, tuple(row))]


def count(shape, row=()):
    """How many views can be come to."""
    return len(reach((shape, tuple(row))))


def least(values):
    """The least of lives, None being the greatest."""
    finite = [value for value in values if value is not None]
    return min(finite) if finite else None


def at_least(one, other):
    """Whether one promise is not less than another one."""
    return one is None or (other is not None and one >= other)


def plan_fault(first, n, plan):
    """The fault of a plan of the right form, from views, by the letter of [11] and [34]."""
    if first not in plan or not at_least(plan[first][0], n):
        return ("first",)
    for view in sorted(plan, key=str):
        shape, row = view
        promise, rank, act = plan[view]
        if promise == 0:
            continue
        less = None if promise is None else promise - 1
        if shape[4] is None:
            for key in range(shape[0]):
                behind = plan.get(told(view, key))
                if behind is None or not at_least(behind[0], promise):
                    return ("key", view, key)
            continue
        if not any(act == one and list(map(type, act)) == list(map(type, one)) for one in acts(shape)):
            return ("act", view)
        for reply in replies(shape):
            end, served = after(shape, act, reply)
            behind = plan.get((end, row))
            if behind is None or not at_least(behind[0], less if served else promise):
                return ("reply", view, reply)
            if not served and reply == "done" and at_least(promise, behind[0]) and behind[1] >= rank:
                return ("reply", view, reply)
    return None


def enemy_fault(first, n, plan):
    """The fault of an enemy's plan of the right form, from views, by the letter of [12] and [34]."""
    if first not in plan or plan[first][0] > n:
        return ("first",)
    for view in sorted(plan, key=str):
        shape, row = view
        limit, choice = plan[view]
        if shape[4] is None:
            if type(choice) is not int or not 0 <= choice < shape[0]:
                return ("key", view)
            behind = plan.get(told(view, choice))
            if behind is None or behind[0] > limit:
                return ("key", view)
            continue
        if type(choice) is not dict or sorted(map(repr, choice)) != sorted(map(repr, acts(shape))):
            return ("acts", view)
        for act in acts(shape):
            if choice[act] not in replies(shape):
                return ("reply", view, act)
            end, served = after(shape, act, choice[act])
            behind = plan.get((end, row))
            if behind is None or behind[0] > limit - served:
                return ("reply", view, act)
    return None


def some_shapes(seed, many, most_views=260, window=0, lefts=(0, 1, 2, "ever", None)):
    """Shapes of small stands, the same for the same seed, none with more views than told."""
    rng = random.Random(seed)
    found = []
    while len(found) < many:
        shape = some_shape(rng, lefts)
        if window and shape[4] is not None:
            continue
        if is_small((shape, (0,) * window), most_views):
            found.append(shape)
    return found


def is_small(first, most_views):
    """Whether no more views than told can be come to."""
    found = {first}
    queue = [first]
    while queue:
        for ends in ways(queue.pop()).values():
            for view, served in ends:
                if view not in found:
                    found.add(view)
                    queue.append(view)
        if len(found) > most_views:
            return False
    return True


def some_shape(rng, lefts):
    """One shape of a small stand."""
    keys = rng.randint(1, 3)
    pages = rng.randint(1, 3)
    unplaced = [key for key in range(keys) if rng.random() < 0.8]
    rng.shuffle(unplaced)
    blocks = []
    for _ in range(rng.randint(1, 3)):
        left = rng.choice(lefts)
        row = []
        for _ in range(pages):
            row.append(unplaced.pop() if unplaced and rng.random() < 0.4 else "old")
        free = 0 if left is None else rng.randint(0, pages)
        kept = row[:pages - free]
        unplaced.extend(page for page in row[pages - free:] if page != "old")
        blocks.append((left, tuple(kept) + ("free",) * free))
    asked = rng.choice([None] + list(range(keys)))
    return (keys, tuple(blocks), rng.choice([0, 0, 1, 2]), rng.choice([0, 0, 1]), asked)


def orders(many):
    """All orders of the integers below `many`, as tuples."""
    return list(itertools.permutations(range(many)))
