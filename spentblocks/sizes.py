"""The least sizes of fresh stands that last so many puts."""

from spentblocks.errors import NoPuts
from spentblocks.lasting import solved
from spentblocks.parts import is_whole
from spentblocks.stands import fresh

MOST_PUTS_LASTED = 99
MOST_LEFT_TRIED = 9
MOST_BLOCKS_TRIED = 6


def least_left(keys, blocks, pages, fails, cuts, puts, *, most=20000):
    """The least left from 0 to 9 with which so many blocks last so many puts; None if 9 is not enough."""
    stands = [fresh(keys, blocks, pages, left, fails, cuts) for left in range(MOST_LEFT_TRIED + 1)]
    return first_lasting(stands, puts, most)


def least_blocks(keys, pages, left, fails, cuts, puts, *, most=20000):
    """The least number of blocks from 1 to 6 that last so many puts; None if 6 are not enough."""
    stands = [fresh(keys, blocks, pages, left, fails, cuts) for blocks in range(1, MOST_BLOCKS_TRIED + 1)]
    at = first_lasting(stands, puts, most)
    return None if at is None else at + 1


def first_lasting(stands, puts, most):
    """The index of the first stand that lasts so many puts; None if there is none."""
    if not is_whole(puts, 1, MOST_PUTS_LASTED):
        raise NoPuts()
    for at, stand in enumerate(stands):
        if solved(stand, [()], most).lives[0] >= puts:
            return at
    return None
