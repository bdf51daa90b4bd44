"""What the parts of a stand have to be."""

MOST_KEYS = 9
MOST_BLOCKS = 9
MOST_PAGES = 6
MOST_LEFT = 99
MOST_LOSSES = 9


def is_whole(thing, low, high):
    """Whether this is an integer (a flag is none) from low to high."""
    return isinstance(thing, int) and not isinstance(thing, bool) and low <= thing <= high


def is_count(thing):
    """Whether this is an integer from 0 on."""
    return isinstance(thing, int) and not isinstance(thing, bool) and thing >= 0


def is_key(thing, keys):
    """Whether this is one of so many keys."""
    return is_whole(thing, 0, keys - 1)


def are_keys(things, keys, most):
    """Whether this is a list of no more than so many items, each of them one of so many keys."""
    return isinstance(things, list) and len(things) <= most and all([is_key(thing, keys) for thing in things])


def wrong_part(keys, blocks, fails, cuts, asked):
    """The name of the first part of a stand that is not as told, or None."""
    if not is_whole(keys, 1, MOST_KEYS):
        return "keys"
    if not are_blocks(blocks, keys):
        return "blocks"
    if not is_whole(fails, 0, MOST_LOSSES):
        return "fails"
    if not is_whole(cuts, 0, MOST_LOSSES):
        return "cuts"
    if asked is not None and not is_key(asked, keys):
        return "asked"
    return None


def are_blocks(blocks, keys):
    """Whether this is a list of blocks as they can stand beside each other."""
    if not isinstance(blocks, list) or not 1 <= len(blocks) <= MOST_BLOCKS:
        return False
    if not all([is_block(block, keys) for block in blocks]):
        return False
    if any([len(pages) != len(blocks[0][1]) for left, pages in blocks]):
        return False
    held = [page for left, pages in blocks for page in pages if not isinstance(page, str)]
    return len(held) == len(set(held))


def is_block(block, keys):
    """Whether this is a tuple (left, pages) as a block for so many keys can be."""
    if not isinstance(block, tuple) or len(block) != 2 or not is_left(block[0]):
        return False
    left, pages = block
    if not isinstance(pages, tuple) or not 1 <= len(pages) <= MOST_PAGES:
        return False
    if not all([page == "free" or page == "old" or is_key(page, keys) for page in pages]):
        return False
    free = pages.count("free")
    if left is None:
        return free == 0
    return "free" not in pages[:len(pages) - free]


def is_left(left):
    """Whether this is how often a block can be erased, or None as of a bad block."""
    return left is None or left == "ever" or is_whole(left, 0, MOST_LEFT)


def is_shape(shape):
    """Whether this is the shape of a stand, made of just such items."""
    if not isinstance(shape, tuple) or len(shape) != 5 or not isinstance(shape[1], tuple):
        return False
    keys, blocks, fails, cuts, asked = shape
    return wrong_part(keys, list(blocks), fails, cuts, asked) is None
