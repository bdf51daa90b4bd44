"""Texts of stands, and of rows of what is made."""

from spentblocks.errors import NoRow, NoText
from spentblocks.parts import is_whole
from spentblocks.stands import Stand
from spentblocks.words import is_left_word, is_number, left_of, left_word, rows_of, text_of

# How many integers stand behind the word of an act.
ACTS = {"write": 1, "copy": 2, "erase": 1}
REPLIES = ("done", "bad", "cut", "late")
# The greatest key, and the greatest index of a block, of any stand.
MOST_NUMBER = 8


def stand_text(stand):
    """The text of a stand."""
    rows = [["keys", stand.many()]]
    rows.extend([["block", left_word(left)] + list(pages) for left, pages in stand.blocks()])
    rows.extend([["fails", stand.fails()], ["cuts", stand.cuts()]])
    if stand.asked() is not None:
        rows.append(["asked", stand.asked()])
    return text_of(rows)


def read_stand(text):
    """The stand whose text this is."""
    rows = rows_of(text)
    end = 1
    while end < len(rows) and rows[end][0] == "block":
        end += 1
    check_rows(rows, ["keys"] + ["block"] * (end - 1) + ["fails", "cuts", "asked"])
    blocks = [(left_of(row[1]), tuple([page_of(word) for word in row[2:]])) for row in rows[1:end]]
    keys, fails, cuts, *asked = [int(row[1]) for row in rows[:1] + rows[end:]]
    return Stand(keys, blocks, fails, cuts, asked=asked[0] if asked else None)


def check_rows(rows, due):
    """Raises an error for the first line that does not begin with the word that is due, or is not of its form."""
    for index, row in enumerate(rows):
        if index == len(due) or row[0] != due[index] or not is_stand_row(row):
            raise NoText(index)
    # The last line, of the asked key, may be lacking.
    if len(rows) < len(due) - 1:
        raise NoText(len(rows))


def is_stand_row(row):
    """Whether these are the words of a line of a stand, whatever the first one is."""
    if row[0] == "block":
        return len(row) > 2 and is_left_word(row[1]) and all([is_page_word(word) for word in row[2:]])
    return len(row) == 2 and is_number(row[1])


def is_page_word(word):
    """Whether the word can stand for a page of a block."""
    return word == "free" or word == "old" or is_number(word)


def page_of(word):
    """The page that the word stands for."""
    return int(word) if is_number(word) else word


def row_text(row):
    """The text of a row of keys and tuples (act, reply)."""
    if not isinstance(row, list):
        raise NoRow(-1)
    for index, item in enumerate(row):
        if not is_item(item):
            raise NoRow(index)
    return text_of([item_words(item) for item in row])


def is_item(thing):
    """Whether this is an item of a row: a key, or a tuple (act, reply)."""
    if not isinstance(thing, tuple):
        return is_whole(thing, 0, MOST_NUMBER)
    return len(thing) == 2 and is_act_form(thing[0]) and thing[1] in REPLIES


def is_act_form(thing):
    """Whether this is an act of some stand."""
    if not isinstance(thing, tuple) or len(thing) < 2 or not isinstance(thing[0], str):
        return False
    return ACTS.get(thing[0]) == len(thing) - 1 and all([is_whole(part, 0, MOST_NUMBER) for part in thing[1:]])


def item_words(item):
    """The words of the line of an item, as strings and integers."""
    if not isinstance(item, tuple):
        return ["ask", item]
    act, reply = item
    return list(act) + [reply]


def read_row(text):
    """The row whose text this is."""
    rows = rows_of(text)
    if text == "":
        return []
    for index, row in enumerate(rows):
        if not is_asked_row(row) and not is_made_row(row):
            raise NoText(index)
    return [int(row[1]) if row[0] == "ask" else made_of(row) for row in rows]


def is_asked_row(row):
    """Whether these are the words of a line of a key that is asked."""
    return len(row) == 2 and row[0] == "ask" and is_row_number(row[1])


def is_made_row(row):
    """Whether these are the words of an act and its reply."""
    if len(row) < 2 or ACTS.get(row[0]) != len(row) - 2 or row[-1] not in REPLIES:
        return False
    return all([is_row_number(word) for word in row[1:-1]])


def is_row_number(word):
    """Whether the word is a key or a block as rows have them."""
    return is_number(word) and int(word) <= MOST_NUMBER


def made_of(row):
    """The tuple (act, reply) of such words."""
    return ((row[0],) + tuple([int(word) for word in row[1:-1]]), row[-1])
