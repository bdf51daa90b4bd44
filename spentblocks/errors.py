"""The errors of the package: each stands directly under SpentError."""


class SpentError(ValueError):
    """What all errors of the package stand under."""


class NoKey(SpentError):
    """This is no key of the stand."""


class NotAtRest(SpentError):
    """A put is asked, where none may be."""


class NotAsked(SpentError):
    """No put is asked, where one must be."""


class NoAct(SpentError):
    """This is no act of the stand."""


class NoReply(SpentError):
    """This reply is not let."""


class NoMost(SpentError):
    """This is no bound for the number of stands."""


class NoNumber(SpentError):
    """This is no number as it is told."""


class NotCalm(SpentError):
    """Fails or cuts are left."""


class NotEver(SpentError):
    """The left of a good block is a number."""


class NotOn(SpentError):
    """The stand does not go on for ever."""


class NoRooms(SpentError):
    """These are no rooms."""


class NoIndex(SpentError):
    """This is no index of a block."""


class NoPuts(SpentError):
    """These are no puts as they are told."""


class NoPolicy(SpentError):
    """This is no policy."""


class NoActs(SpentError):
    """The policy has no act."""


class NoSums(SpentError):
    """These are no sums."""


class NoLost(SpentError):
    """These are no lost blocks."""


class NoChip(SpentError):
    """There is no such chip."""


class NoPlace(SpentError):
    """There is no such place on the chip."""


class NoReplies(SpentError):
    """These are no replies for a chip."""


class NotGood(SpentError):
    """The block is bad."""


class NoContent(SpentError):
    """This is no content of a page."""


class NoRoom(SpentError):
    """No page is free, or nothing is left of the block."""


class PowerLost(SpentError):
    """Power was lost within an act or just behind it."""


class NoRecord(SpentError):
    """There is no such record."""


class NoKeys(SpentError):
    """This is no number of keys."""


class NoAdviser(SpentError):
    """This is no adviser."""


class NoValue(SpentError):
    """This is no value."""


class IsOver(SpentError):
    """The store is over, as power was lost."""


class NoBack(SpentError):
    """So many items cannot be taken back."""


class NoLine(SpentError):
    """This is no line for the desk."""


class NothingDone(SpentError):
    """There is nothing to take back."""


class NoStand(SpentError):
    """A part of a stand is not as told."""

    def __init__(self, part):
        SpentError.__init__(self, "a part of a stand is not as told")
        self.part = part


class NoNames(SpentError):
    """A part of a renaming is not as told."""

    def __init__(self, part):
        SpentError.__init__(self, "a part of a renaming is not as told")
        self.part = part


class NoSpread(SpentError):
    """Crossed sums cannot be spread so."""

    def __init__(self, part):
        SpentError.__init__(self, "crossed sums cannot be spread so")
        self.part = part


class TooMany(SpentError):
    """More can be come to than the bound lets."""

    def __init__(self, most):
        SpentError.__init__(self, "more can be come to than the bound lets")
        self.most = most


class NoRow(SpentError):
    """An item of the row cannot be made."""

    def __init__(self, index):
        SpentError.__init__(self, "an item of the row cannot be made")
        self.index = index


class WentBad(SpentError):
    """The block went bad at a write or an erase."""

    def __init__(self, block):
        SpentError.__init__(self, "the block went bad at a write or an erase")
        self.block = block


class Unserved(SpentError):
    """The put of the key is not served."""

    def __init__(self, key):
        SpentError.__init__(self, "the put of the key is not served")
        self.key = key


class NoText(SpentError):
    """A line of the text is not of the form that is due."""

    def __init__(self, line):
        SpentError.__init__(self, "a line of the text is not of the form that is due")
        self.line = line


class NoName(SpentError):
    """No stand has this name."""

    def __init__(self, name):
        SpentError.__init__(self, "no stand has this name")
        self.name = name
