"""Plans of a store and of its enemy, as far as they are come to from the view 0 of a solution."""

from spentblocks.moves import let_replies


def store_entries(solution):
    """A dict from the numbers of views to tuples (promise, rank, act)."""
    return followed(solution, store_entry)


def enemy_entries(solution):
    """A dict from the numbers of views to tuples (limit, choice), when the view 0 does not last for ever."""
    return followed(solution, enemy_entry)


def followed(solution, entry_of):
    """The entries from the view 0 on; the function tells that of a view, and the views that have to be there, too."""
    entries = {}
    queue = [0]
    while queue:
        at = queue.pop()
        if at not in entries:
            entry, behind = entry_of(solution, at)
            entries[at] = entry
            queue.extend(behind)
    return entries


def store_entry(solution, at):
    """The entry of a store's plan, and the views behind it."""
    promise = solution.life(at)
    ways = solution.game.ways[at]
    if promise == 0:
        return (0, 0, None), []
    if solution.game.is_rest(at):
        return (promise, 0, None), ways
    return (promise, solution.ranks[at], solution.act(at)), ways[solution.picks[at]]


def enemy_entry(solution, at):
    """The entry of an enemy's plan, and the views behind it."""
    limit = solution.lives[at]
    ways = solution.game.ways[at]
    if solution.game.is_rest(at):
        key = [solution.lives[way] for way in ways].index(limit)
        return (limit, key), [ways[key]]
    answers = [chosen_reply(solution, way, limit) for way in ways]
    choice = named_replies(solution, at, answers)
    return (limit, choice), [way[reply] for way, reply in zip(ways, answers)]


def chosen_reply(solution, way, limit):
    """The index, among the let ones, of the first reply to an act behind which no more puts are sure."""
    return [worth <= limit for worth in solution.by_reply(way)].index(True)


def named_replies(solution, at, answers):
    """A dict from each act of the view to the reply that is chosen."""
    _, fails, cuts, _, _ = solution.game.views[at]
    let = let_replies(fails, cuts)
    return {act: let[reply] for act, reply in zip(solution.game.acts(at), answers)}
