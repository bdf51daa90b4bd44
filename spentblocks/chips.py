"""A chip of blocks that wear, and that fails as it is told."""

from spentblocks.contents import is_written
from spentblocks.errors import NoChip, NoContent, NoPlace, NoReplies, NoRoom, NotGood, PowerLost, WentBad
from spentblocks.parts import MOST_BLOCKS, MOST_PAGES, is_left, is_whole


class Chip:
    """Blocks of pages that are written and erased; each page holds None (free) or a tuple of bytes."""

    def __init__(self, blocks, pages, left):
        if not is_size(blocks, pages) or left is None or not is_left(left):
            raise NoChip()
        self._lefts = [left] * blocks
        self._contents = [[None] * pages for _ in range(blocks)]
        self._replies = []

    def size(self):
        """The tuple (blocks, pages of each)."""
        return (len(self._contents), len(self._contents[0]))

    def left(self, b):
        """How often the block can still be erased, None if it is bad."""
        self._check_block(b)
        return self._lefts[b]

    def read(self, b, p):
        """The content of the page."""
        self._check_block(b)
        if not is_whole(p, 0, len(self._contents[b]) - 1):
            raise NoPlace()
        return self._contents[b][p]

    def tell(self, replies):
        """Tells the replies to the writes and erases to come, instead of those told before."""
        if not isinstance(replies, list) or not all([is_told_reply(reply) for reply in replies]):
            raise NoReplies()
        self._replies = list(replies)

    def told(self):
        """The list of the told replies that are not used yet."""
        return list(self._replies)

    def write(self, b, content):
        """Writes the content into the first free page of the block."""
        self._check_good(b)
        if not is_written(content):
            raise NoContent()
        if None not in self._contents[b]:
            raise NoRoom()
        word, noise = self._answer(b)
        self._contents[b][self._contents[b].index(None)] = noise if word == "cut" else content
        if word != "done":
            raise PowerLost()

    def erase(self, b):
        """Frees all pages of the block."""
        self._check_good(b)
        if self._lefts[b] == 0:
            raise NoRoom()
        word, noise = self._answer(b)
        self._contents[b] = [noise if word == "cut" else None] * len(self._contents[b])
        if self._lefts[b] != "ever":
            self._lefts[b] -= 1
        if word != "done":
            raise PowerLost()

    def copy(self):
        """A chip that is the same, told replies too, and goes on by itself."""
        blocks, pages = self.size()
        other = Chip(blocks, pages, 0)
        for b in range(blocks):
            other.lay(b, self._lefts[b], self._contents[b])
        other.tell(self._replies)
        return other

    def lay(self, b, left, contents):
        """Sets the block as it is told (right values are taken for granted): its left, and what lies in its pages."""
        self._lefts[b] = left
        self._contents[b] = list(contents)

    def _check_block(self, b):
        if not is_whole(b, 0, len(self._lefts) - 1):
            raise NoPlace()

    def _check_good(self, b):
        self._check_block(b)
        if self._lefts[b] is None:
            raise NotGood()

    def _answer(self, b):
        """Uses up a reply to an act on the block: the tuple (word, noise), if the block does not go bad."""
        reply = self._replies.pop(0) if self._replies else "done"
        if reply == "bad":
            self._lefts[b] = None
            self._contents[b] = [() if content is None else content for content in self._contents[b]]
            raise WentBad(b)
        if reply == "done":
            return ("done", ())
        return ("late", ()) if reply == ("late",) else reply


def is_size(blocks, pages):
    """Whether a chip can have so many blocks of so many pages."""
    return is_whole(blocks, 1, MOST_BLOCKS) and is_whole(pages, 1, MOST_PAGES)


def is_told_reply(reply):
    """Whether this is a reply that can be told to a chip."""
    if reply in ("done", "bad", ("late",)):
        return True
    return isinstance(reply, tuple) and len(reply) == 2 and reply[0] == "cut" and is_written(reply[1])
