"""Images of chips: texts of all that lies on them."""

from spentblocks.chips import Chip, is_size
from spentblocks.contents import MOST_CONTENT
from spentblocks.errors import NoText
from spentblocks.parts import is_left
from spentblocks.words import is_left_word, is_number, left_of, left_word, rows_of, text_of

HEX_DIGITS = "0123456789abcdef"
# A line of a page begins with two spaces, so there are two empty words ahead.
PAGE_WORDS = ("", "", "page")


def image_text(chip):
    """The text of all that lies on a chip."""
    blocks, pages = chip.size()
    rows = [["chip", blocks, pages]]
    for b in range(blocks):
        rows.append(["block", left_word(chip.left(b))])
        rows.extend([[*PAGE_WORDS, content_word(chip.read(b, p))] for p in range(pages)])
    return text_of(rows)


def content_word(content):
    """The word for the content of a page."""
    if content is None:
        return "free"
    return "".join([HEX_DIGITS[byte // 16] + HEX_DIGITS[byte & 15] for byte in content]) if content else "-"


def read_image(text):
    """A new chip on which lies what the text tells."""
    rows = rows_of(text)
    blocks, pages = size_of(rows[0])
    chip = Chip(blocks, pages, 0)
    line = 1
    for b in range(blocks):
        left = left_at(rows, line)
        chip.lay(b, left, contents_at(rows, line + 1, pages, left))
        line += 1 + pages
    if line < len(rows):
        raise NoText(line)
    return chip


def size_of(row):
    """The tuple (blocks, pages) in the words of the first line."""
    if len(row) != 3 or row[0] != "chip" or not is_number(row[1]) or not is_number(row[2]):
        raise NoText(0)
    if not is_size(int(row[1]), int(row[2])):
        raise NoText(0)
    return (int(row[1]), int(row[2]))


def left_at(rows, line):
    """The left in the words of this line, which is one of a block."""
    if line >= len(rows) or len(rows[line]) != 2 or rows[line][0] != "block" or not is_left_word(rows[line][1]):
        raise NoText(line)
    left = left_of(rows[line][1])
    if not is_left(left):
        raise NoText(line)
    return left


def contents_at(rows, first, pages, left):
    """The contents of the pages of a block with this left, in the words of so many lines from the first one on."""
    contents = []
    for line in range(first, first + pages):
        if line >= len(rows) or tuple(rows[line][:-1]) != PAGE_WORDS or not is_content_word(rows[line][-1]):
            raise NoText(line)
        content = content_of(rows[line][-1])
        # No page of a bad block is free, and none that is not free stands behind a free one.
        if left is None and content is None or content is not None and None in contents:
            raise NoText(line)
        contents.append(content)
    return contents


def is_content_word(word):
    """Whether the word can stand for the content of a page."""
    if word == "free" or word == "-":
        return True
    if len(word) % 2 == 1 or not 1 <= len(word) // 2 <= MOST_CONTENT:
        return False
    return all([sign in HEX_DIGITS for sign in word])


def content_of(word):
    """The content that the word stands for."""
    if word == "free":
        return None
    digits = [HEX_DIGITS.index(sign) for sign in word if word != "-"]
    return tuple([16 * great + small for great, small in zip(digits[::2], digits[1::2])])
