"""A desk that keeps stands under names, and works by lines."""

from spentblocks.advice import good_acts, hard_keys
from spentblocks.errors import NoLine, NoName, NothingDone
from spentblocks.lives import life
from spentblocks.stands import fresh
from spentblocks.texts import is_made_row, made_of, read_stand, stand_text
from spentblocks.words import is_number, left_of, line_of

LETTERS = "abcdefghijklmnopqrstuvwxyz"
MOST_LETTERS = 8


def shown(stand):
    """The text of the stand in one line."""
    return stand_text(stand).replace("\n", "|")


def life_told(stand):
    """The life of the stand as a word."""
    many = life(stand)
    return "ever" if many is None else str(many)


def good_told(stand):
    """The good acts of the stand in one line."""
    return "; ".join([line_of(act) for act in good_acts(stand)]) or "none"


def hard_told(stand):
    """The hard keys of the stand in one line."""
    return line_of(hard_keys(stand))


# What is told of a stand; all of these words have just its name behind them.
ANSWERS = {"show": shown, "life": life_told, "good": good_told, "hard": hard_told}


class Desk:
    """Stands under names, and what they were before each line that can be taken back."""

    def __init__(self):
        self._stands = {}
        self._done = []

    def tell(self, line):
        """Does what the line says; returns the answer."""
        words = words_in(line)
        if words[0] == "names":
            return line_of(sorted(self._stands)) or "none"
        if words[0] == "undo":
            self._undo()
            return "ok"
        if words[0] in ANSWERS:
            answer = ANSWERS[words[0]]
            return answer(self._named(words[1]))
        stand = self._behind(words)
        self._done.append((words[1], self._stands.get(words[1])))
        self._set(words[1], stand)
        return "ok"

    def undoable(self):
        """How many lines can be taken back."""
        return len(self._done)

    def _undo(self):
        if not self._done:
            raise NothingDone()
        name, stand = self._done.pop()
        self._set(name, stand)

    def _set(self, name, stand):
        """Keeps the stand under the name; with None, nothing is kept there any more."""
        if stand is None:
            del self._stands[name]
        else:
            self._stands[name] = stand

    def _named(self, name):
        if name not in self._stands:
            raise NoName(name)
        return self._stands[name]

    def _behind(self, words):
        """The stand that the name has behind a line, None if it is dropped."""
        if words[0] == "stand":
            return read_stand(line_of(words[2:]).replace("|", "\n"))
        if words[0] == "fresh":
            keys, blocks, pages, left, fails, cuts = words[2:]
            return fresh(int(keys), int(blocks), int(pages), left_of(left), int(fails), int(cuts))
        stand = self._named(words[1])
        if words[0] == "drop":
            return None
        if words[0] == "ask":
            return stand.put(int(words[2]))
        act, reply = made_of(words[2:])
        return stand.after(act, reply)


def words_in(line):
    """The words of a line that has one of the forms of a desk."""
    if not isinstance(line, str) or "\n" in line:
        raise NoLine()
    words = line.split(" ")
    if not is_form(words[0], words[1:]):
        raise NoLine()
    return words


def is_form(word, rest):
    """Whether the first word and the others are those of a line of a desk."""
    if word in ("names", "undo"):
        return not rest
    if not rest or not is_name(rest[0]):
        return False
    if word == "stand":
        return len(rest) > 1
    if word == "fresh":
        return are_sizes(rest[1:])
    if word == "ask":
        return len(rest) == 2 and is_number(rest[1])
    if word == "make":
        return is_made_row(rest[1:])
    return len(rest) == 1 and (word == "drop" or word in ANSWERS)


def is_name(word):
    """Whether the word can be the name of a stand."""
    return 1 <= len(word) <= MOST_LETTERS and all([sign in LETTERS for sign in word])


def are_sizes(words):
    """Whether these are the words for the sizes of a fresh stand: keys, blocks, pages, left, fails and cuts."""
    if len(words) != 6 or words[3] != "ever" and not is_number(words[3]):
        return False
    return all([is_number(word) for word in words[:3] + words[4:]])
