"""A store of records on a chip, and what is seen when a chip is looked through."""

from spentblocks.advisers import is_policy, told_act
from spentblocks.contents import is_value
from spentblocks.errors import IsOver, NoAdviser, NoKey, NoKeys, NoValue, PowerLost, Unserved, WentBad
from spentblocks.parts import MOST_KEYS, is_key, is_whole
from spentblocks.records import read_record, record
from spentblocks.stands import Stand


def looked(chip, keys):
    """A dict from each key with a record to the tuple (b, p, number, value) of its record that counts."""
    if not is_whole(keys, 1, MOST_KEYS):
        raise NoKeys()
    found = {}
    for b, p, key, number, value in records_on(chip):
        if key < keys and (key not in found or found[key][2] < number):
            found[key] = (b, p, number, value)
    return found


def records_on(chip):
    """All records on the chip, tuples (b, p, key, number, value), ordered by their places."""
    blocks, pages = chip.size()
    rows = [(b, p, read_record(chip.read(b, p))) for b in range(blocks) for p in range(pages)]
    return [(b, p) + told for b, p, told in rows if told is not None]


def stand_seen(chip, keys, fails, cuts):
    """The stand at rest of the chip."""
    return Stand(keys, blocks_seen(chip, looked(chip, keys)), fails, cuts)


def blocks_seen(chip, found):
    """The blocks of the chip as those of a stand, when these are the records that count."""
    blocks, pages = chip.size()
    homes = {(found[key][0], found[key][1]): key for key in found}
    rows = [[page_seen(chip.read(b, p), homes.get((b, p), "old")) for p in range(pages)] for b in range(blocks)]
    return [(chip.left(b), tuple(rows[b])) for b in range(blocks)]


def page_seen(content, worn):
    """What a page is: free, or what it is if it has been written."""
    return "free" if content is None else worn


class Store:
    """Values under keys, as records on a chip, led by a policy."""

    def __init__(self, chip, keys, adviser):
        self._known = looked(chip, keys)
        if not is_policy(adviser):
            raise NoAdviser()
        self._chip = chip
        self._keys = keys
        self._adviser = {shape: adviser[shape] for shape in adviser} if isinstance(adviser, dict) else adviser
        self._over = False

    def get(self, key):
        """The value of the key, None if there is none."""
        self._check_on()
        if not is_key(key, self._keys):
            raise NoKey()
        return self._known[key][3] if key in self._known else None

    def stand(self, fails, cuts):
        """The stand at rest of the chip, as the store knows it."""
        self._check_on()
        return Stand(self._keys, blocks_seen(self._chip, self._known), fails, cuts)

    def put(self, key, value, fails, cuts):
        """Makes acts as the policy tells them until the put is served; returns the list of them."""
        self._check_on()
        if not is_key(key, self._keys):
            raise NoKey()
        if not is_value(value):
            raise NoValue()
        made = []
        seen = {}
        served = False
        while not served:
            shape = self.stand(fails, cuts).put(key).shape()
            act = told_act(shape, self._adviser)
            if act is None or shape in seen:
                raise Unserved(key)
            seen[shape] = True
            made.append(act)
            if self._is_done(act, key, value):
                served = act[0] == "write"
            else:
                fails = max(0, fails - 1)
        return made

    def serves(self, rows, fails, cuts):
        """Puts the items (key, value) one after another; returns (how many were served, the store that goes on)."""
        self._check_on()
        store = self
        served = 0
        for key, value in rows:
            good = self._good_blocks()
            try:
                store.put(key, value, fails, cuts)
                served += 1
            except PowerLost:
                store = Store(self._chip, self._keys, self._adviser)
                cuts = max(0, cuts - 1)
            except Unserved:
                break
            fails = max(0, fails - good + self._good_blocks())
        return (served, store)

    def _check_on(self):
        if self._over:
            raise IsOver()

    def _good_blocks(self):
        return len([b for b in range(self._chip.size()[0]) if self._chip.left(b) is not None])

    def _is_done(self, act, key, value):
        """Makes an act while this put is asked; returns whether it is done (if not, its block is bad)."""
        try:
            self._make(act, key, value)
        except WentBad:
            return False
        except PowerLost:
            self._over = True
            raise
        return True

    def _make(self, act, key, value):
        if act[0] == "erase":
            self._chip.erase(act[1])
        elif act[0] == "write":
            self._write(act[1], key, value)
        else:
            self._write(act[2], act[1], self._known[act[1]][3])

    def _write(self, b, key, value):
        number = 1 + max([told[3] for told in records_on(self._chip)], default=0)
        contents = [self._chip.read(b, p) for p in range(self._chip.size()[1])]
        self._chip.write(b, record(key, number, value))
        self._known[key] = (b, contents.index(None), number, value)
