"""Acts and replies over the bare blocks and shapes of stands, which are taken to be right."""


def places(blocks):
    """A dict from each key that has a current copy to the tuple (block, page) of it."""
    found = {}
    for b, (_, pages) in enumerate(blocks):
        for p, page in enumerate(pages):
            if not isinstance(page, str):
                found[page] = (b, p)
    return found


def held(block):
    """The keys whose current copies stand in the block."""
    return [page for page in block[1] if not isinstance(page, str)]


def free_pages(blocks):
    """The number of the free pages of all blocks (those of good ones: a bad one has none)."""
    return sum([pages.count("free") for left, pages in blocks])


def has_room(block):
    """Whether the block can be written to (a bad one has no free page)."""
    return "free" in block[1]


def can_be_erased(block):
    """Whether the block is good, can still be erased, holds no current copy, and is not free already."""
    left, pages = block
    if left is None or left == 0 or pages.count("free") == len(pages):
        return False
    return not held(block)


def clearing_act(blocks, b):
    """What sets the block b free: its erase, or before it the copy of its least key; None if no room is for that."""
    keys = held(blocks[b])
    if not keys:
        return ("erase", b)
    roomy = [other for other, block in enumerate(blocks) if other != b and has_room(block)]
    if not roomy:
        return None
    return ("copy", min(keys), roomy[0])


def acts_on(blocks):
    """All acts while a put is asked, in their order: writes, copies, erases."""
    roomy = [b for b, block in enumerate(blocks) if has_room(block)]
    acts = [("write", b) for b in roomy]
    for key, (home, _) in sorted(places(blocks).items()):
        acts.extend([("copy", key, b) for b in roomy if b != home])
    acts.extend([("erase", b) for b, block in enumerate(blocks) if can_be_erased(block)])
    return acts


def is_act(act, acts):
    """Whether this is one of the acts, made of just such items: True is equal to 1, but no block."""
    return act in acts and not any([isinstance(part, bool) for part in act])


def let_replies(fails, cuts):
    """The replies that are let to each act, in their order."""
    let = ["done"]
    if fails > 0:
        let.append("bad")
    if cuts > 0:
        let.extend(["cut", "late"])
    return let


def is_served(act, reply):
    """Whether the put is served by this act and reply."""
    return act[0] == "write" and reply == "done"


def filled(block, page):
    """The block with this in the place of its first free page."""
    left, pages = block
    at = pages.index("free")
    return (left, pages[:at] + (page,) + pages[at + 1:])


def gone_bad(block):
    """The block when it is bad: what it holds stays, and nothing of it is free."""
    return (None, tuple(["old" if page == "free" else page for page in block[1]]))


def erased(block, page):
    """The block with one erase less, and this in all of its pages."""
    left, pages = block
    return (left if left == "ever" else left - 1, (page,) * len(pages))


def with_copy(blocks, key, b):
    """The blocks with the current copy of the key in the first free page of block b, and the elder copy old."""
    rows = [(left, tuple(["old" if page == key else page for page in pages])) for left, pages in blocks]
    rows[b] = filled(rows[b], key)
    return tuple(rows)


def with_block(blocks, b, block):
    """The blocks with another one in the place of block b."""
    return blocks[:b] + (block,) + blocks[b + 1:]


def blocks_behind(blocks, asked, act, reply):
    """The blocks behind an act, made while this key is asked, and the reply to it."""
    b = act[-1]
    if reply == "bad":
        return with_block(blocks, b, gone_bad(blocks[b]))
    if act[0] == "erase":
        return with_block(blocks, b, erased(blocks[b], "old" if reply == "cut" else "free"))
    if reply == "cut":
        return with_block(blocks, b, filled(blocks[b], "old"))
    return with_copy(blocks, asked if act[0] == "write" else act[1], b)


def shape_acts(shape):
    """All acts at a shape, in their order: none at rest."""
    if shape[4] is None:
        return []
    return acts_on(shape[1])


def shape_asked(shape, key):
    """The shape at which, instead of none, this key is asked."""
    return shape[:4] + (key,)


def shape_behind(shape, act, reply):
    """The shape behind an act and a let reply."""
    keys, blocks, fails, cuts, asked = shape
    behind = blocks_behind(blocks, asked, act, reply)
    if reply == "bad":
        return (keys, behind, fails - 1, cuts, asked)
    if reply != "done":
        return (keys, behind, fails, cuts - 1, None)
    return (keys, behind, fails, cuts, None if is_served(act, reply) else asked)
