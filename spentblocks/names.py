"""Other names for the blocks and the keys of a stand."""

from spentblocks.errors import NoNames
from spentblocks.moves import held
from spentblocks.parts import is_count
from spentblocks.stands import Stand


def renamed(stand, blocks, keys):
    """The stand whose block i is blocks[i] of this one, and in which the key keys[j] has the number j."""
    rows = stand.blocks()
    if not is_order(blocks, len(rows)):
        raise NoNames("blocks")
    if not is_order(keys, stand.many()):
        raise NoNames("keys")
    numbers = {key: number for number, key in enumerate(keys)}
    moved = [(rows[b][0], tuple([numbers.get(page, page) for page in rows[b][1]])) for b in blocks]
    return Stand(stand.many(), moved, stand.fails(), stand.cuts(), asked=numbers.get(stand.asked()))


def is_order(order, many):
    """Whether this is a tuple of the integers from 0 on below `many`, each once."""
    if not isinstance(order, tuple) or not all([is_count(number) for number in order]):
        return False
    return sorted(order) == list(range(many))


def first_name(stand):
    """The renaming (blocks, keys) that makes alike stands equal."""
    rows = stand.blocks()
    order = sorted(range(len(rows)), key=lambda b: block_rank(rows[b], stand.asked()))
    keys = [key for b in order for key in held(rows[b])]
    if stand.asked() is not None and stand.asked() not in keys:
        keys.append(stand.asked())
    keys.extend([key for key in range(stand.many()) if key not in keys])
    return (tuple(order), tuple(keys))


def block_rank(block, asked):
    """What blocks are ordered by: their left, then their pages as words that hide which key is which."""
    left, pages = block
    return (left_rank(left), tuple([page_word(page, asked) for page in pages]))


def left_rank(left):
    """What lefts are ordered by: bad ones first, "ever" last."""
    if left is None:
        return (0, 0)
    if left == "ever":
        return (2, 0)
    return (1, left)


def page_word(page, asked):
    """The string that a page counts as."""
    if isinstance(page, str):
        return page
    return "asked" if page == asked else "key"
