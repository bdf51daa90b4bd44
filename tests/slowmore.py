"""A slow reckoning of the tests' own for policies, told rows, tables and sums, straight from the document."""

import itertools

from tests import slow


def is_just(thing, other):
    """Whether both are equal and made of just such items."""
    return repr(thing) == repr(other)


def policy_act(shape, policy):
    """The act of a policy by the letter of [19], or None."""
    acts = slow.acts(shape)
    if isinstance(policy, dict):
        for act in acts:
            if shape in policy and is_just(policy[shape], act):
                return act
        return None
    if not acts:
        return None
    return acts[0] if policy == "first" else spread_act(shape, acts, policy == "even")


def spread_act(shape, acts, even):
    """The act of "greedy" and "even"."""
    blocks = shape[1]
    good = [b for b in range(len(blocks)) if blocks[b][0] is not None]
    free = {b: blocks[b][1].count("free") for b in good}
    copies = {b: [page for page in blocks[b][1] if type(page) is int] for b in good}
    height = {b: 1000 if blocks[b][0] == "ever" else blocks[b][0] for b in good}
    victims = [b for b in good if free[b] == 0 and height[b] > 0]
    if sum(free.values()) >= 2 or not victims:
        targets = [b for b in good if free[b] > 0]
        if not targets:
            return acts[0]
        fewest = [b for b in targets if free[b] == min(free[t] for t in targets)]
        if even:
            fewest = [b for b in fewest if height[b] == max(height[t] for t in fewest)]
        return ("write", fewest[0])
    fewest = [b for b in victims if len(copies[b]) == min(len(copies[v]) for v in victims)]
    if even:
        fewest = [b for b in fewest if height[b] == max(height[v] for v in fewest)]
    victim = fewest[0]
    if not copies[victim]:
        return ("erase", victim)
    targets = [b for b in good if b != victim and free[b] > 0]
    return ("copy", min(copies[victim]), targets[0]) if targets else acts[0]


def policy_ways(policy):
    """A function that tells the ways from a view if the policy's acts are made."""
    def told(view):
        ways = slow.ways(view)
        if view[0][4] is None:
            return ways
        act = policy_act(view[0], policy)
        return {} if act is None else {act: ways[act]}
    return told


def policy_life(shape, policy):
    """The life of a policy, as that of a store that has no other acts."""
    return slow.lives((shape, ()), policy_ways(policy))[(shape, ())]


def policy_count(shape, policy):
    """How many stands can be come to by the policy's acts."""
    return len(slow.reach((shape, ()), policy_ways(policy)))


def policy_fault(shape, policy, n, thing):
    """The judge of [20] by the letter."""
    if type(thing) is not list:
        return ("form",)
    seen, served = [], 0
    for index, item in enumerate(thing):
        act = None if shape[4] is None else policy_act(shape, policy)
        if shape[4] is None:
            if type(item) is not int or not 0 <= item < shape[0]:
                return ("item", index)
            shape, seen = shape[:4] + (item,), []
            continue
        if act is None or shape in seen or type(item) is not str or item not in slow.replies(shape):
            return ("item", index)
        seen.append(shape)
        shape, more = slow.after(shape, act, item)
        served += more
    if shape[4] is None or (policy_act(shape, policy) is not None and shape not in seen):
        return ("end",)
    return None if served == n else ("number", served)


def told_pairs(shape, puts):
    """A dict from all pairs of [21] to lists of (act or None, pair behind)."""
    found, queue = {}, [(0, shape)]
    while queue:
        pair = queue.pop()
        if pair in found:
            continue
        served, end = pair
        if end[4] is None:
            found[pair] = [(None, (served, end[:4] + (puts[served],)))] if served < len(puts) else []
        else:
            behind = [(act,) + slow.after(end, act, "done") for act in slow.acts(end)]
            found[pair] = [(act, (served + more, other)) for act, other, more in behind]
        queue.extend(pair for _, pair in found[pair])
    return found


def least_erases(shape, puts):
    """The least number of erases, None if the puts cannot be served: one number of erases after another."""
    graph = told_pairs(shape, puts)
    level, seen, number = [(0, shape)], set(), 0
    while level:
        later = []
        while level:
            pair = level.pop()
            if pair in seen:
                continue
            seen.add(pair)
            if pair[0] == len(puts):
                return number
            for act, behind in graph[pair]:
                (later if act is not None and act[0] == "erase" else level).append(behind)
        level, number = later, number + 1
    return None


def acts_fault(shape, puts, thing):
    """The judge of [21] by the letter."""
    if type(thing) is not list:
        return ("form",)
    served = 0
    for index, act in enumerate(thing):
        if served == len(puts):
            return ("act", index)
        asked = shape if shape[4] is not None else shape[:4] + (puts[served],)
        if not any(is_just(act, one) for one in slow.acts(asked)):
            return ("act", index)
        shape, more = slow.after(asked, act, "done")
        served += more
    return None if served == len(puts) else ("short", served)


def table_fault(shape, puts, n, table):
    """The judge of [22] by the letter, for a thing of the right form."""
    if not puts:
        return None if n == 0 else ("first",)
    if table.get((0, shape[:4] + (puts[0],)), -1) < n:
        return ("first",)
    for entry in sorted(table, key=str):
        served, asked = entry
        for act in slow.acts(asked) if table[entry] > 0 else []:
            behind, more = slow.after(asked, act, "done")
            if more and served + 1 == len(puts):
                return ("act", entry, act)
            if more:
                behind = behind[:4] + (puts[served + 1],)
            due = table[entry] - (1 if act[0] == "erase" else 0)
            if table.get((served + more, behind), -1) < due:
                return ("act", entry, act)
    return None


def lost_pages(sums, lost):
    """The pages that are lost, ascending."""
    return sorted({page for pages in sums for page in pages if page[0] in lost})


def contents(sums):
    """All ways to give each page of the sums a bit such that each sum is kept, as dicts."""
    pages = sorted({page for row in sums for page in row})
    for bits in itertools.product((0, 1), repeat=len(pages)):
        found = dict(zip(pages, bits))
        if all(sum(found[page] for page in row) % 2 == 0 for row in sums):
            yield found


def can_be_made_good(sums, lost):
    """Whether the kept pages tell the lost ones, whatever the contents are."""
    gone, seen = lost_pages(sums, lost), {}
    for content in contents(sums):
        kept = tuple(content[page] for page in sorted(content) if page not in gone)
        if seen.setdefault(kept, content) != content:
            return False
    return True


def mixes(sums):
    """The sets of pages that stand an odd number of times in some of the sums put together."""
    found = []
    for many in range(len(sums) + 1):
        for some in itertools.combinations(sums, many):
            mix = set()
            for pages in some:
                mix ^= set(pages)
            found.append(mix)
    return found


def good_fault(sums, lost, thing):
    """The judge of [23] by the letter, for a thing of the right form."""
    gone = lost_pages(sums, lost)
    word, told = thing
    if word == "alike":
        for index, pages in enumerate(sums):
            if len(set(pages) & set(told)) % 2:
                return ("sum", index)
        return None
    if set(told) != set(gone):
        return ("lack",)
    for page in gone:
        if {page} | set(told[page]) not in mixes(sums):
            return ("page", page)
    return None
