"""Words and lines of texts."""

from spentblocks.errors import NoText

DIGITS = "0123456789"
MOST_DIGITS = 3


def rows_of(text):
    """The lines of a text, each as the list of its words."""
    if not isinstance(text, str):
        raise NoText(-1)
    return [line.split(" ") for line in text.split("\n")]


def text_of(rows):
    """The text whose lines have these words."""
    return "\n".join([line_of(row) for row in rows])


def line_of(parts):
    """The line whose words are these strings and integers."""
    return " ".join([str(part) for part in parts])


def is_number(word):
    """Whether the word is an integer of a text: decimal, of few digits, without further zeros ahead."""
    if not 1 <= len(word) <= MOST_DIGITS or not all([sign in DIGITS for sign in word]):
        return False
    return word == "0" or word[0] != "0"


def is_left_word(word):
    """Whether the word can stand for the left of a block."""
    return word == "ever" or word == "bad" or is_number(word)


def left_word(left):
    """The word for the left of a block."""
    return "bad" if left is None else str(left)


def left_of(word):
    """The left that the word stands for."""
    if word == "bad":
        return None
    return word if word == "ever" else int(word)
