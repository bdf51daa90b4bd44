"""[22]: tables of the least erases, and their judge. (The errors that [21] shares stand in test_rows.)"""

import random
import unittest

from spentblocks.errors import NoNumber
from spentblocks.rows import acts_fault, least_erases
from spentblocks.stands import Stand, stand_of
from spentblocks.tables import erase_table, table_fault
from tests import slow, slowmore
from tests.test_rows import SMALL, calm_shapes, some_puts

REST = SMALL.shape()
ASKED = SMALL.put(0).shape()
COPIED = (1, ((1, ("old",)), (0, (0,))), 0, 0, 0)
ERASED = (1, ((0, ("free",)), (0, (0,))), 0, 0, 0)
# For two puts: the first one is written at once, behind it the other block is erased.
TABLE = {(0, ASKED): 1, (1, COPIED): 1, (0, COPIED): 1, (0, ERASED): 0, (1, ERASED): 0}


def changed(**more):
    """The table with other numbers by name, or without those that are told as None."""
    entries = {"first": (0, ASKED), "second": (1, COPIED), "copied": (0, COPIED), "erased": (0, ERASED),
               "again": (1, ERASED)}
    found = dict(TABLE)
    for name, number in more.items():
        found[entries[name]] = number
        if number is None:
            del found[entries[name]]
    return found


class Tables(unittest.TestCase):

    def check(self, shape, puts):
        """Judges the table, entry by entry and act by act."""
        stand, number = stand_of(shape), slowmore.least_erases(shape, puts)
        table, kept = erase_table(stand, puts), list(puts)
        self.assertIs(type(table), dict)
        n = 99 if number is None else number
        self.assertIsNone(slowmore.table_fault(shape, puts, n, table))
        self.assertIsNone(table_fault(stand, puts, n, table))
        for entry, many in table.items():
            self.assertIs(type(entry), tuple)
            self.assertTrue(type(entry[0]) is int and 0 <= entry[0] < len(puts))
            self.assertEqual(stand_of(entry[1]).asked(), puts[entry[0]])
            self.assertTrue(type(many) is int and many >= 0)
        if puts:
            self.assertEqual(table[(0, stand.put(puts[0]).shape())], n)
            self.assertEqual(table_fault(stand, puts, n + 1, table), ("first",))
        else:
            self.assertEqual(table, {})
        self.assertEqual(puts, kept)

    def test_reckoned(self):
        rng = random.Random(241)
        for lefts in ((0, 1, 2, "ever", None), ("ever",), (0, 1, 2)):
            for shape in calm_shapes(241 + len(lefts), 60, 400, lefts=lefts):
                for _ in range(2):
                    puts = some_puts(rng, shape[0])
                    with self.subTest(shape=shape, puts=puts):
                        self.check(shape, puts)

    def test_by_hand(self):
        self.assertEqual(erase_table(SMALL, []), {})
        self.assertEqual(erase_table(SMALL, [0])[(0, ASKED)], 0)
        self.assertEqual(erase_table(SMALL, [0, 0])[(0, ASKED)], 1)
        self.assertEqual(erase_table(SMALL, [0, 0, 0])[(0, ASKED)], 99)
        stuck = Stand(1, [(None, (0,))], 0, 0)
        self.assertEqual(erase_table(stuck, [0]), {(0, stuck.put(0).shape()): 99})

    def test_a_row_and_a_table_of_the_same_number(self):
        rng = random.Random(242)
        for shape in calm_shapes(242, 60):
            puts, stand = some_puts(rng, shape[0]), stand_of(shape)
            found = least_erases(stand, puts)
            if found is not None:
                self.assertIsNone(acts_fault(stand, puts, found[1]))
                self.assertIsNone(table_fault(stand, puts, found[0], erase_table(stand, puts)))

    def test_dicts_are_new(self):
        kept = dict(erase_table(SMALL, [0, 0]))
        erase_table(SMALL, [0, 0]).clear()
        self.assertEqual(erase_table(SMALL, [0, 0]), kept)


class Faults(unittest.TestCase):

    def assert_fault(self, fault, thing, n=1, puts=(0, 0), stand=SMALL):
        kept, puts = repr(thing), list(puts)
        self.assertEqual(table_fault(stand, puts, n, thing), fault)
        self.assertEqual(repr(thing), kept)

    def test_right_tables(self):
        self.assert_fault(None, TABLE)
        self.assert_fault(None, TABLE, n=0)
        self.assert_fault(None, {(0, ASKED): 0}, n=0)
        self.assert_fault(None, {}, n=0, puts=())
        self.assert_fault(None, {(0, ASKED): 0}, n=0, puts=(0,))
        self.assert_fault(None, {**TABLE, (0, COPIED): 1, (1, COPIED): 1})

    def test_numbers(self):
        for n in [-1, -10 ** 29, True, False, None, "0", "", (), [0], {}]:
            with self.subTest(n):
                for puts in ([], [0], [0, 0]):
                    self.assertRaises(NoNumber, table_fault, SMALL, puts, n, {})
                    self.assertRaises(NoNumber, table_fault, SMALL, puts, n, None)

    def test_things_that_are_no_dicts(self):
        for thing in [None, True, 0, "", [], (), [((0, ASKED), 1)], (((0, ASKED), 1),), SMALL]:
            with self.subTest(thing):
                self.assert_fault(("form",), thing)
                self.assert_fault(("form",), thing, n=0, puts=())

    def test_entries_that_are_none(self):
        other = (2, ((1, (0,)), (0, ("free",))), 0, 0, 1)
        for entry in [None, 0, True, "", (), (0,), (0, ASKED, 0), ASKED, (ASKED, 0), (-1, ASKED), (2, ASKED), (None, ASKED),
                      ("0", ASKED), (0, REST), (1, REST), (0, other), (0, None), (0, ()), (0, ASKED[:4]),
                      (0, (1, ASKED[1], 0, 0, False)), (1, (1, ASKED[1], 0, 0, False)), (0, (True,) + ASKED[1:]),
                      (0, (1, ((True, (0,)), (0, ("free",))), 0, 0, 0)), (0, (1, ((1, (0,)), (0, (0,))), 0, 0, 0))]:
            with self.subTest(entry):
                self.assert_fault(("form",), {entry: 1})
                self.assert_fault(("form",), {(1, COPIED): 0, entry: 0}, n=0)
        self.assert_fault(("form",), {(True, COPIED): 0, (0, ASKED): 0}, n=0)
        self.assert_fault(("form",), {(False, ASKED): 0}, n=0)
        self.assert_fault(("form",), {(0, ASKED): 0}, n=0, puts=())
        self.assert_fault(("form",), {(1, ASKED): 0, (0, ASKED): 0}, n=0, puts=(0,))

    def test_only_the_put_in_its_turn_is_asked(self):
        stand = Stand(2, [(0, ("free", "free"))], 0, 0)
        one, other = stand.put(0).shape(), stand.put(1).shape()
        self.assert_fault(None, {(0, one): 0, (1, other): 0}, 0, (0, 1), stand)
        self.assert_fault(("form",), {(0, one): 0, (1, one): 0}, 0, (0, 1), stand)
        self.assert_fault(("form",), {(0, other): 0, (0, one): 0}, 0, (0, 1), stand)

    def test_worths_that_are_none(self):
        for number in [-1, True, False, None, "0", (), [0], (0,), {}, SMALL]:
            with self.subTest(number):
                self.assert_fault(("form",), {(0, ASKED): number}, n=0)
                self.assert_fault(("form",), {**TABLE, (1, ERASED): number})

    def test_first(self):
        self.assert_fault(("first",), {}, n=0)
        self.assert_fault(("first",), {})
        self.assert_fault(("first",), TABLE, n=2)
        self.assert_fault(("first",), TABLE, n=10 ** 29)
        self.assert_fault(("first",), changed(first=None), n=0)
        self.assert_fault(("first",), {(0, COPIED): 1, (0, ASKED): 0})
        self.assert_fault(("first",), {}, n=1, puts=())
        self.assert_fault(("first",), {}, n=99, puts=())

    def test_acts(self):
        self.assert_fault(("act", (0, ASKED), ("write", 1)), changed(second=None))
        self.assert_fault(("act", (0, ASKED), ("write", 1)), changed(second=0))
        self.assert_fault(("act", (0, ASKED), ("copy", 0, 1)), changed(copied=None))
        self.assert_fault(("act", (0, ASKED), ("copy", 0, 1)), changed(copied=0))
        self.assert_fault(("act", (0, COPIED), ("erase", 0)), changed(erased=None))
        self.assert_fault(("act", (1, COPIED), ("erase", 0)), changed(again=None))
        self.assert_fault(None, changed(again=0, erased=0))

    def test_a_write_at_the_last_put(self):
        self.assert_fault(("act", (1, ERASED), ("write", 0)), changed(again=1))
        self.assert_fault(("act", (0, ASKED), ("write", 1)), {(0, ASKED): 1, (0, COPIED): 1, (0, ERASED): 0}, 1, (0,))

    def test_the_least_entry_by_str_and_its_first_act(self):
        two = Stand(2, [(1, ("old",)), (1, ("old",)), (0, (1,))], 0, 0)
        entry = (0, two.put(0).shape())
        self.assert_fault(("act", entry, ("erase", 0)), {entry: 1}, 1, (0,), two)
        behind = (0, two.put(0).after(("erase", 0), "done").shape())
        self.assert_fault(("act", entry, ("erase", 1)), {entry: 1, behind: 0}, 1, (0,), two)
        wrong = {entry: 1, behind: 1}
        first = min(wrong, key=str)
        self.assert_fault(("act", first, ("write", 0) if first == behind else ("erase", 1)), wrong, 1, (0,), two)

    def test_reckoned(self):
        rng = random.Random(251)
        faults = {}
        for shape in calm_shapes(251, 120, 300):
            puts = some_puts(rng, shape[0], 4)
            number = slowmore.least_erases(shape, puts)
            table = erase_table(stand_of(shape), puts)
            for _ in range(5):
                thing, n = dict(table), rng.choice([99 if number is None else number, 0, 1])
                self.spoil(rng, thing)
                with self.subTest(shape=shape, puts=puts, n=n, thing=thing):
                    fault = slowmore.table_fault(shape, puts, n, thing)
                    self.assert_fault(fault, thing, n, puts, stand_of(shape))
                faults.setdefault(fault and fault[0], True)
        self.assertEqual(set(faults), {None, "first", "act"})

    def spoil(self, rng, table):
        for _ in range(rng.randint(0, 3)):
            if table:
                entry = rng.choice(sorted(table, key=str))
                if rng.random() < 0.3:
                    del table[entry]
                else:
                    table[entry] = rng.choice([0, 1, table[entry] + 1, max(0, table[entry] - 1), 10 ** 29])


if __name__ == "__main__":
    unittest.main()
