"""Which stores go on for ever, for all sizes, and how; and what one key on blocks of one page lasts."""

from spentblocks.errors import NoIndex, NoRooms, NotAsked, NotAtRest, NotCalm, NotEver, NotOn
from spentblocks.moves import clearing_act, free_pages, has_room, held, with_copy
from spentblocks.parts import is_whole

MOST_ROOMS = 100
MOST_ROOM = 1000000000


def goes_on(stand):
    """Whether a stand at rest lasts for ever, with no fails and no cuts, and "ever" left in all good blocks."""
    check_border(stand)
    if stand.asked() is not None:
        raise NotAtRest()
    return can_go_on(stand.many(), stand.blocks())


def check_border(stand):
    """Raises an error for a stand of which the border tells nothing."""
    if stand.fails() > 0 or stand.cuts() > 0:
        raise NotCalm()
    if any([left is not None and left != "ever" for left, pages in stand.blocks()]):
        raise NotEver()


def can_go_on(many, blocks):
    """Whether so many keys on these blocks can be served for ever."""
    good = [block for block in blocks if block[0] is not None]
    return many <= (len(good) - 1) * len(blocks[0][1]) and len(emptiable(blocks)) > 0


def emptiable(blocks):
    """The indexes of the good blocks whose current copies have room in the free pages of the others."""
    free = free_pages(blocks)
    good = [b for b, block in enumerate(blocks) if block[0] is not None]
    return [b for b in good if len(held(blocks[b])) <= free - blocks[b][1].count("free")]


def kept_free(stand):
    """An act at an asked stand such that the put is served soon, and the stand goes on behind it."""
    if stand.asked() is None:
        raise NotAsked()
    check_border(stand)
    blocks = stand.blocks()
    if not can_go_on(stand.many(), blocks):
        raise NotOn()
    for b, block in enumerate(blocks):
        if has_room(block) and can_go_on(stand.many(), with_copy(blocks, stand.asked(), b)):
            return ("write", b)
    # Where no write will do, the emptiable block with the fewest copies holds fewer of them than it has pages, and
    # it stays that block until it is erased: then a write will do.
    return clearing_act(blocks, min(emptiable(blocks), key=lambda at: len(held(blocks[at]))))


def lone_life(rooms, at):
    """The life of one key on blocks of one page that can be written to so often; it stands in the block `at`."""
    if not are_rooms(rooms):
        raise NoRooms()
    if at is not None and not is_whole(at, 0, len(rooms) - 1):
        raise NoIndex()
    every, most = sum(rooms), max(rooms)
    # Of two writes one after another at most one goes to the block with the greatest room.
    between = 2 * (every - most)
    if at is not None and rooms[at] == most and rooms.count(most) == 1:
        return min(every, between)
    return min(every, between + 1)


def are_rooms(rooms):
    """Whether this is a list of 1 to 100 rooms."""
    if not isinstance(rooms, list) or not 1 <= len(rooms) <= MOST_ROOMS:
        return False
    return all([is_whole(room, 0, MOST_ROOM) for room in rooms])
