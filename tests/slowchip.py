"""A slow model of the tests' own for chips, records and stores, straight from the document.

A chip is a dict: "left" (a list), "pages" (lists of contents), "told" (a list of replies).
"""

from tests import slow, slowmore

WORDS = ("done", "bad", "cut", "late")


def chip(blocks, pages, left):
    """A new chip."""
    return {"left": [left] * blocks, "pages": [[None] * pages for _ in range(blocks)], "told": []}


def act(model, b, content=None, erase=False):
    """A write or an erase by the letter of [25]: the name of what is raised (with its block), or None."""
    if type(b) is not int or not 0 <= b < len(model["left"]):
        return "NoPlace"
    if model["left"][b] is None:
        return "NotGood"
    if not erase:
        if type(content) is not tuple or len(content) > 60 or any(type(x) is not int or not 0 <= x < 256 for x in content):
            return "NoContent"
        if None not in model["pages"][b]:
            return "NoRoom"
    elif model["left"][b] == 0:
        return "NoRoom"
    reply = model["told"].pop(0) if model["told"] else "done"
    if reply == "bad":
        model["left"][b] = None
        model["pages"][b] = [() if page is None else page for page in model["pages"][b]]
        return ("WentBad", b)
    cut = reply[0] == "cut"
    if erase:
        model["pages"][b] = [reply[1] if cut else None for _ in model["pages"][b]]
        if model["left"][b] != "ever":
            model["left"][b] = model["left"][b] - 1
    else:
        model["pages"][b][model["pages"][b].index(None)] = reply[1] if cut else content
    return None if reply == "done" else "PowerLost"


def seen(thing):
    """What a chip of the package shows of itself, as such a dict."""
    blocks, pages = thing.size()
    return {"left": [thing.left(b) for b in range(blocks)],
            "pages": [[thing.read(b, p) for p in range(pages)] for b in range(blocks)], "told": thing.told()}


def check(parts):
    """The check of [26], in whole numbers and with one remainder at the end."""
    total = 31 ** len(parts)
    for at, byte in enumerate(parts):
        total += byte * 31 ** (len(parts) - 1 - at)
    return total % 65521


def with_check(parts):
    """The parts with the two bytes of their check."""
    return tuple(parts) + tuple(divmod(check(parts), 256))


def record(key, number, value):
    """A record by the letter of [26]."""
    return with_check((165, key) + tuple(number.to_bytes(4, "big")) + (len(value),) + value)


def read_record(content):
    """The record that a content is, by the letter of [26], or None."""
    if content is None or len(content) < 9:
        return None
    key, number = content[1], int.from_bytes(content[2:6], "big")
    value = tuple(content[7:len(content) - 2])
    if content[0] != 165 or key > 8 or number < 1 or content[6] != len(value) or len(value) > 50:
        return None
    return (key, number, value) if with_check(content[:-2]) == content else None


def looked(model, keys):
    """What is seen of the keys, by the letter of [27]."""
    found = {}
    for key in range(keys):
        rows = []
        for b, pages in enumerate(model["pages"]):
            for p, content in enumerate(pages):
                told = read_record(content)
                if told is not None and told[0] == key:
                    rows.append((-told[1], b, p, told[2]))
        if rows:
            number, b, p, value = min(rows)
            found[key] = (b, p, -number, value)
    return found


def shape_seen(model, keys, fails, cuts, asked=None):
    """The shape of the stand that is seen."""
    homes = {(b, p): key for key, (b, p, number, value) in looked(model, keys).items()}
    blocks = []
    for b, pages in enumerate(model["pages"]):
        row = ["free" if content is None else homes.get((b, p), "old") for p, content in enumerate(pages)]
        blocks.append((model["left"][b], tuple(row)))
    return (keys, tuple(blocks), fails, cuts, asked)


def greatest(model):
    """The greatest number of a record on the chip, 0 if there is none."""
    rows = [read_record(content) for pages in model["pages"] for content in pages]
    return max([told[1] for told in rows if told is not None], default=0)


def put(model, keys, policy, key, value, fails, cuts):
    """A put by the letter of [28]: (how it ends, acts made, fails left)."""
    before, made = [], []
    while True:
        shape = shape_seen(model, keys, fails, cuts, key)
        told = slowmore.policy_act(shape, policy)
        if told is None or shape in before:
            return "Unserved", made, fails
        before.append(shape)
        made.append(told)
        if told[0] == "erase":
            end = act(model, told[1], erase=True)
        else:
            copied = key if told[0] == "write" else told[1]
            text = value if told[0] == "write" else looked(model, keys)[copied][3]
            end = act(model, told[-1], record(copied, greatest(model) + 1, text))
        if end == "PowerLost":
            return "PowerLost", made, fails
        if end is not None:
            fails = max(0, fails - 1)
        elif told[0] == "write":
            return None, made, fails


def serves(model, keys, policy, rows, fails, cuts):
    """How many of the rows are served, by the letter of [28]."""
    served = 0
    for key, value in rows:
        end, made, fails = put(model, keys, policy, key, value, fails, cuts)
        if end == "Unserved":
            break
        if end == "PowerLost":
            cuts = max(0, cuts - 1)
        else:
            served += 1
    return served


def told_reply(word, noise=(1, 2)):
    """The reply of [8] as one that is told to a chip."""
    return {"done": "done", "bad": "bad", "cut": ("cut", noise), "late": ("late",)}[word]


def written(model, other, rng, many, keys=9):
    """Writes and erases at random, made on the model and by a function on another chip; both end alike."""
    for _ in range(many):
        b = rng.randrange(len(model["left"]))
        erase = rng.random() < 0.2
        content = record(rng.randrange(keys), rng.randint(1, 30), (rng.randrange(256),) * rng.randrange(4))
        if rng.random() < 0.2:
            content = (rng.randrange(256),) * rng.randrange(61)
        if not slow_is_same(act(model, b, content, erase), other(b, content, erase)):
            raise AssertionError((b, content, erase))


def slow_is_same(one, other):
    """Whether both are the same name, or the same tuple of a name and a block."""
    return repr(one) == repr(other)


def played(thing, b, content, erase):
    """The same on a chip of the package: what it raises, told as the model tells it."""
    try:
        end = thing.erase(b) if erase else thing.write(b, content)
    except ValueError as error:
        name = error.__class__.__name__
        return (name, error.block) if name == "WentBad" else name
    return end


def shape_after(shape, told, word):
    """The shape behind an act and a reply of [8]."""
    return slow.after(shape, told, word)[0]
