"""How lost blocks are made good by sums over their pages."""

from itertools import combinations

from spentblocks.errors import NoLost, NoNumber, NoSpread, NoSums
from spentblocks.parts import MOST_BLOCKS, MOST_PAGES, is_count, is_whole

MOST_SUMS = 8


def made_good(sums, lost):
    """("made", a dict from each lost page to pages that add up to it), or ("alike", lost pages no sum tells apart)."""
    check_sums(sums)
    check_lost(lost)
    return way_out(sums, lost)


def check_sums(sums):
    """Raises NoSums if these are no sums."""
    if not isinstance(sums, list) or not 1 <= len(sums) <= MOST_SUMS:
        raise NoSums()
    if not all([are_pages(pages) and len(pages) >= 2 for pages in sums]):
        raise NoSums()


def check_lost(lost):
    """Raises NoLost if this is no ascending list of unlike blocks."""
    if not isinstance(lost, list) or not all([is_whole(block, 0, MOST_BLOCKS - 1) for block in lost]):
        raise NoLost()
    if not is_ascending(lost):
        raise NoLost()


def are_pages(things):
    """Whether this is an ascending list of unlike pages."""
    return isinstance(things, list) and all([is_page(thing) for thing in things]) and is_ascending(things)


def is_page(thing):
    """Whether this is a tuple (block, page)."""
    if not isinstance(thing, tuple) or len(thing) != 2:
        return False
    return is_whole(thing[0], 0, MOST_BLOCKS - 1) and is_whole(thing[1], 0, MOST_PAGES - 1)


def is_ascending(things):
    """Whether each item is greater than the one before it."""
    return all([one < other for one, other in zip(things, things[1:])])


def lost_pages(sums, lost):
    """The ascending list of the pages of lost blocks that stand in a sum."""
    return sorted({page for pages in sums for page in pages if page[0] in lost})


def bit(page):
    """The bit that stands for a page in a mask."""
    return 1 << (page[0] * MOST_PAGES + page[1])


def mask_of(pages):
    """The integer whose bits are those of these unlike pages."""
    return sum([bit(page) for page in pages])


def pages_of(mask):
    """The ascending list of the pages whose bits are in the mask."""
    every = [(block, page) for block in range(MOST_BLOCKS) for page in range(MOST_PAGES)]
    return [page for page in every if mask & bit(page)]


def mixed(mask, other, page):
    """The mask put together with the other one if it has the page, so that it has it no more."""
    return mask ^ other if mask & bit(page) else mask


def way_out(sums, lost):
    """What made_good tells of right sums and lost blocks."""
    rows = [mask_of(pages) for pages in sums]
    ways = {}
    for page in lost_pages(sums, lost):
        fit = [row for row in rows if row & bit(page)]
        if not fit:
            # No row that is left has the page: it changes together with those in whose rows it stands.
            return ("alike", [other for other in ways if ways[other] & bit(page)] + [page])
        # Then each lost page that was looked at stands in its own row alone.
        rows = [mixed(row, fit[0], page) for row in rows]
        ways = {other: mixed(ways[other], fit[0], page) for other in ways}
        ways[page] = fit[0]
    return ("made", {page: pages_of(ways[page] ^ bit(page)) for page in ways})


def good_fault(sums, lost, thing):
    """The first fault of the thing as what made_good tells, or None."""
    check_sums(sums)
    check_lost(lost)
    gone = lost_pages(sums, lost)
    if not isinstance(thing, tuple) or len(thing) != 2:
        return ("form",)
    word, told = thing
    if word == "made" and are_ways(told, gone):
        return made_fault(sums, gone, told)
    if word == "alike" and are_pages(told) and len(told) > 0 and all([page in gone for page in told]):
        return alike_fault(sums, told)
    return ("form",)


def are_ways(told, gone):
    """Whether this is a dict from pages to ascending lists of unlike pages that are not lost."""
    if not isinstance(told, dict) or not all([is_page(page) and are_pages(told[page]) for page in told]):
        return False
    return not any([page in gone for way in told.values() for page in way])


def made_fault(sums, gone, ways):
    """The first fault of ways to make the lost pages good, or None."""
    if sorted(ways) != gone:
        return ("lack",)
    rows = [mask_of(pages) for pages in sums]
    for page in gone:
        if not is_mix(mask_of([page] + ways[page]), rows):
            return ("page", page)
    return None


def is_mix(mask, rows):
    """Whether the mask is what some of the rows are, put together."""
    rest = list(rows)
    while rest:
        row = rest.pop()
        low = row & -row
        rest = [other ^ row if other & low else other for other in rest]
        mask = mask ^ row if mask & low else mask
    return mask == 0


def alike_fault(sums, told):
    """The first sum in which an odd number of the pages stand, as a fault, or None."""
    for index, pages in enumerate(sums):
        if len([page for page in told if page in pages]) % 2 == 1:
            return ("sum", index)
    return None


def survives(sums, many):
    """Whether all lists of just so many lost blocks of those that stand in the sums are made good."""
    check_sums(sums)
    if not is_count(many):
        raise NoNumber()
    return many > len(blocks_in(sums)) or first_worst(sums, many) is None


def worst(sums):
    """The least of the shortest lists of lost blocks that are not made good; None if there is none."""
    check_sums(sums)
    for many in range(1, len(blocks_in(sums)) + 1):
        lost = first_worst(sums, many)
        if lost is not None:
            return lost
    return None


def blocks_in(sums):
    """The ascending list of the blocks that stand in the sums."""
    return sorted({block for pages in sums for block, _ in pages})


def first_worst(sums, many):
    """The least list of so many lost blocks that is not made good, or None."""
    blocks = blocks_in(sums)
    for lost in combinations(blocks, many):
        if way_out(sums, list(lost))[0] == "alike":
            return list(lost)
    return None


def crossed(blocks, pages):
    """The sums that have, for each page number, the pages of this number of all blocks."""
    if not is_whole(blocks, 2, MOST_BLOCKS):
        raise NoSpread("blocks")
    if not is_whole(pages, 1, MOST_PAGES):
        raise NoSpread("pages")
    return [[(block, page) for block in range(blocks)] for page in range(pages)]
