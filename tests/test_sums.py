"""[23], [24]: lost blocks made good by sums."""

import itertools
import random
import unittest

from spentblocks.errors import NoLost, NoNumber, NoSpread, NoSums
from spentblocks.stands import Stand
from spentblocks.sums import crossed, good_fault, made_good, survives, worst
from tests import slowmore

ROW = [(0, 0), (1, 0), (2, 0)]
SUMS = [ROW]
STAND = Stand(1, [(0, (0,))], 0, 0)
NO_SUMS = [None, True, 0, "", (), (ROW,), {}, {0: ROW}, [], [ROW] * 9, STAND, [None], [True], [0], ["ab"], [{}], [ROW, None],
           [tuple(ROW)], [[]], [[(0, 0)]], [ROW, [(0, 0)]], [[(0, 0), (0, 0)]], [[(1, 0), (0, 0)]], [[(0, 1), (0, 0)]],
           [[(0, 0), (1, 0), (1, 0)]], [[(0, 0), (9, 0)]], [[(0, 0), (1, 6)]], [[(-1, 0), (0, 0)]], [[(0, -1), (0, 0)]],
           [[(0, 0), (True, 0)]], [[(0, False), (1, 0)]], [[(0, 0), [1, 0]]], [[(0, 0), (1,)]], [[(0, 0), (1, 0, 0)]],
           [[(0, 0), 1]], [[(0, 0), None]], [[(0, 0), ("1", 0)]], [[(0, 0), (1, None)]], [[0, 1]], [[(0, 0), STAND]]]
NO_LOST = [None, True, 0, "", (), (1,), {}, {1: 1}, [1, 1], [2, 1], [0, 2, 1], [-1], [9], [10 ** 29], [True], [0, True],
           [False], [None], ["1"], [(1,)], [[1]], [STAND], STAND]
NO_NUMBERS = [-1, -10 ** 29, True, False, None, "0", "", (), [0], {}, STAND]


def some_sums(rng, most_pages=9, most_sums=4):
    """Small sums over few pages; some equal, some of whose pages are told by one sum alone."""
    blocks, pages = rng.randint(1, 5), rng.randint(1, 3)
    every = [(block, page) for block in range(blocks) for page in range(pages)]
    every = sorted(rng.sample(every, min(len(every), most_pages)))
    if len(every) < 2:
        return SUMS
    found = [sorted(rng.sample(every, rng.randint(2, len(every)))) for _ in range(rng.randint(1, most_sums))]
    return found + [found[0]] if rng.random() < 0.2 else found


def some_lost(rng):
    return sorted(rng.sample(range(9 if rng.random() < 0.2 else 5), rng.randint(0, 3)))


class MadeGood(unittest.TestCase):

    def test_examples(self):
        self.assertEqual(made_good(SUMS, [1]), ("made", {(1, 0): [(0, 0), (2, 0)]}))
        self.assertEqual(made_good(SUMS, [1, 2]), ("alike", [(1, 0), (2, 0)]))

    def test_by_hand(self):
        self.assertEqual(made_good(SUMS, []), ("made", {}))
        self.assertEqual(made_good(SUMS, [3, 8]), ("made", {}))
        self.assertEqual(made_good([[(0, 0), (0, 1), (1, 0)]], [0]), ("alike", [(0, 0), (0, 1)]))
        # Two sums that differ in one page alone: its content is always 0.
        two = [[(0, 0), (1, 0)], [(0, 0), (1, 0), (2, 0)]]
        self.assertEqual(made_good(two, [2])[0], "made")
        self.assertIsNone(good_fault(two, [2], ("made", {(2, 0): []})))
        self.assertIsNone(good_fault(two, [2], ("made", {(2, 0): [(0, 0), (1, 0)]})))
        self.assertEqual(made_good(two, [0]), ("made", {(0, 0): [(1, 0)]}))
        self.assertEqual(made_good([ROW, ROW], [1]), ("made", {(1, 0): [(0, 0), (2, 0)]}))
        self.assertEqual(made_good([ROW, ROW], [0, 1])[0], "alike")
        # Each of the three pages stands in two of the sums: the sum of the sums has none.
        ring = [[(0, 0), (1, 0)], [(0, 0), (2, 0)], [(1, 0), (2, 0)]]
        self.assertEqual(made_good(ring, [0, 1, 2]), ("alike", ROW))

    def test_all_pages_lost_and_told_all_the_same(self):
        sums = [[(0, 0), (1, 0)], [(0, 0), (2, 0)], ROW]
        self.assertEqual(made_good(sums, [0, 1, 2]), ("made", {(0, 0): [], (1, 0): [], (2, 0): []}))

    def check(self, sums, lost):
        kept = repr((sums, lost))
        word, told = made_good(sums, lost)
        self.assertEqual(repr((sums, lost)), kept)
        self.assertEqual(made_good(sums, lost), (word, told))
        gone = slowmore.lost_pages(sums, lost)
        self.assertEqual(word == "made", slowmore.can_be_made_good(sums, lost))
        if word == "made":
            self.assertEqual(sorted(told), gone)
            for content in slowmore.contents(sums):
                for page, way in told.items():
                    self.assertEqual(way, sorted(set(way)))
                    self.assertFalse(set(way) & set(gone))
                    self.assertEqual(sum(content.get(other, 0) for other in way) % 2, content[page])
        else:
            self.assertEqual(word, "alike")
            self.assertEqual(told, sorted(set(told)))
            self.assertTrue(told and set(told) <= set(gone))
            for content in slowmore.contents(sums):
                other = {page: bit ^ (page in told) for page, bit in content.items()}
                self.assertTrue(all(sum(other[page] for page in pages) % 2 == 0 for pages in sums))
        self.assertIsNone(slowmore.good_fault(sums, lost, (word, told)))
        self.assertIsNone(good_fault(sums, lost, (word, told)))
        return word

    def test_whatever_the_contents_are(self):
        rng = random.Random(261)
        words = []
        for _ in range(500):
            sums, lost = some_sums(rng), some_lost(rng)
            with self.subTest(sums=sums, lost=lost):
                words.append(self.check(sums, lost))
        self.assertGreater(min(words.count("made"), words.count("alike")), 80)

    def test_large_sums(self):
        every = [(block, page) for block in range(9) for page in range(6)]
        rng = random.Random(262)
        for _ in range(60):
            sums = [sorted(rng.sample(every, rng.randint(2, 54))) for _ in range(8)]
            lost = sorted(rng.sample(range(9), rng.randint(0, 2)))
            word, told = made_good(sums, lost)
            self.assertIsNone(slowmore.good_fault(sums, lost, (word, told)))
            self.assertIsNone(good_fault(sums, lost, (word, told)))
        self.assertEqual(made_good([every], [8])[0], "alike")

    def test_answers_are_new(self):
        made_good(SUMS, [1])[1].clear()
        made_good(SUMS, [1])[1][(1, 0)].clear()
        self.assertEqual(made_good(SUMS, [1]), ("made", {(1, 0): [(0, 0), (2, 0)]}))
        made_good(SUMS, [1, 2])[1].clear()
        self.assertEqual(made_good(SUMS, [1, 2]), ("alike", [(1, 0), (2, 0)]))


class Errors(unittest.TestCase):

    def test_sums_ahead_of_the_rest(self):
        for sums in NO_SUMS:
            with self.subTest(sums):
                kept = repr(sums)
                for lost in ([0], [], None, [9]):
                    self.assertRaises(NoSums, made_good, sums, lost)
                    self.assertRaises(NoSums, good_fault, sums, lost, None)
                for many in (0, 1, None, -1):
                    self.assertRaises(NoSums, survives, sums, many)
                self.assertRaises(NoSums, worst, sums)
                self.assertEqual(repr(sums), kept)

    def test_sums_that_are_let(self):
        every = [(block, page) for block in range(9) for page in range(6)]
        for sums in ([ROW] * 8, [every] * 8, [[(0, 0), (0, 1)]], [[(8, 4), (8, 5)], [(8, 4), (8, 5)]]):
            self.assertEqual(made_good(sums, []), ("made", {}))

    def test_lost(self):
        for lost in NO_LOST:
            with self.subTest(lost):
                self.assertRaises(NoLost, made_good, SUMS, lost)
                self.assertRaises(NoLost, good_fault, SUMS, lost, None)
                self.assertRaises(NoLost, good_fault, SUMS, lost, ("made", {}))

    def test_numbers(self):
        for many in NO_NUMBERS:
            with self.subTest(many):
                self.assertRaises(NoNumber, survives, SUMS, many)


class Faults(unittest.TestCase):

    def assert_fault(self, fault, sums, lost, thing):
        kept = repr((sums, lost, thing))
        self.assertEqual(good_fault(sums, lost, thing), fault)
        self.assertEqual(repr((sums, lost, thing)), kept)

    def test_right_things(self):
        self.assert_fault(None, SUMS, [1], ("made", {(1, 0): [(0, 0), (2, 0)]}))
        self.assert_fault(None, SUMS, [1, 2], ("alike", [(1, 0), (2, 0)]))
        self.assert_fault(None, SUMS, [], ("made", {}))
        self.assert_fault(None, SUMS, [7], ("made", {}))

    def test_forms(self):
        way = [(0, 0), (2, 0)]
        for thing in [None, True, 0, "made", (), [], {}, ("made",), ("made", {}, 0), ["made", {}], ("made", None),
                      ("made", []), ("made", ()), ("alike", {}), ("Made", {}), (True, {}), (None, {}), ("alike", ()),
                      ("alike", []), ("alike", None), ("alike", ((1, 0),)), ({}, "made"), ("alike", "1"), STAND, ("made", STAND)]:
            with self.subTest(thing):
                self.assert_fault(("form",), SUMS, [1], thing)
        for word in ["Made", "Alike", "", "made ", None, True, 0, ("made",), ["alike"]]:
            with self.subTest(word):
                self.assert_fault(("form",), SUMS, [1], (word, {(1, 0): way}))
                self.assert_fault(("form",), SUMS, [1, 2], (word, [(1, 0), (2, 0)]))
        self.assert_fault(("form",), SUMS, [1], ("alike", {(1, 0): way}))
        self.assert_fault(("form",), SUMS, [1, 2], ("made", [(1, 0), (2, 0)]))
        for page in [None, True, 1, "1", (), (1,), (True, 0), (1, False), (9, 0), (1, 6), (-1, 0), (1, 0, 0), ("1", 0)]:
            with self.subTest(page):
                self.assert_fault(("form",), SUMS, [1], ("made", {page: way}))
                self.assert_fault(("form",), SUMS, [1], ("made", {(1, 0): [(0, 0), page]}))
                self.assert_fault(("form",), SUMS, [1], ("alike", [page]))
        for wrong in [None, True, 0, "", (), tuple(way), {}, [(2, 0), (0, 0)], [(0, 0), (0, 0)], [(0, 0), [2, 0]],
                      [(0, 0), (1, 0)], [(1, 0)], [[0, 0], [2, 0]], way + [(9, 0)], STAND]:
            with self.subTest(wrong):
                self.assert_fault(("form",), SUMS, [1], ("made", {(1, 0): wrong}))
                self.assert_fault(("form",), SUMS, [1], ("made", {(1, 0): way, (5, 0): wrong}))
        for pages in [[(0, 0)], [(0, 0), (1, 0)], [(1, 0), (1, 0)], [(2, 0), (1, 0)], [(1, 1)], [[1, 0]], [(1, 0), (3, 0)]]:
            with self.subTest(pages):
                self.assert_fault(("form",), SUMS, [1, 2, 3], ("alike", pages))

    def test_pages_that_stand_in_no_sum_are_not_lost(self):
        self.assert_fault(("page", (1, 0)), SUMS, [1], ("made", {(1, 0): [(0, 0), (1, 1), (2, 0)]}))
        self.assert_fault(("page", (1, 0)), SUMS, [1], ("made", {(1, 0): [(0, 0), (2, 0), (8, 5)]}))
        self.assert_fault(("form",), SUMS, [1], ("alike", [(1, 0), (1, 1)]))
        self.assert_fault(("lack",), SUMS, [1], ("made", {(1, 0): [(0, 0), (2, 0)], (1, 1): []}))

    def test_pages_that_lack_or_are_too_many(self):
        self.assert_fault(("lack",), SUMS, [1], ("made", {}))
        self.assert_fault(("lack",), SUMS, [1], ("made", {(0, 0): []}))
        self.assert_fault(("lack",), SUMS, [1], ("made", {(1, 0): [(0, 0), (2, 0)], (2, 0): [(0, 0)]}))
        self.assert_fault(("lack",), SUMS, [], ("made", {(0, 0): []}))
        self.assert_fault(("lack",), SUMS, [1, 2], ("made", {(1, 0): []}))

    def test_ways_that_are_none(self):
        for way in ([], [(0, 0)], [(2, 0)], [(0, 0), (2, 0), (3, 0)], [(0, 0), (3, 0)]):
            self.assert_fault(("page", (1, 0)), SUMS, [1], ("made", {(1, 0): way}))
        sums = crossed(3, 2)
        right = {(0, 0): [(1, 0), (2, 0)], (0, 1): [(1, 1), (2, 1)]}
        self.assert_fault(None, sums, [0], ("made", right))
        self.assert_fault(("page", (0, 1)), sums, [0], ("made", {**right, (0, 1): [(1, 1)]}))
        self.assert_fault(("page", (0, 0)), sums, [0], ("made", {(0, 1): [(1, 1)], (0, 0): []}))
        # More pages than it takes, as another sum holds just these.
        more = {**right, (0, 0): [(1, 0), (2, 0), (3, 0), (4, 0)]}
        self.assert_fault(("page", (0, 0)), sums, [0], ("made", more))
        self.assert_fault(None, sums + [[(3, 0), (4, 0)]], [0], ("made", more))

    def test_sums_that_change(self):
        sums = [[(0, 0), (1, 0)], ROW, [(1, 0), (2, 0)]]
        self.assert_fault(("sum", 0), sums, [0, 1, 2], ("alike", [(0, 0)]))
        self.assert_fault(("sum", 1), sums, [0, 1, 2], ("alike", [(2, 0)]))
        self.assert_fault(("sum", 2), sums, [0, 1, 2], ("alike", [(0, 0), (1, 0)]))
        self.assert_fault(("sum", 1), sums, [0, 1, 2], ("alike", ROW))

    def test_reckoned(self):
        rng = random.Random(271)
        faults = {}
        for _ in range(400):
            sums, lost = some_sums(rng), some_lost(rng)
            for _ in range(4):
                thing = self.spoilt(rng, sums, lost)
                with self.subTest(sums=sums, lost=lost, thing=thing):
                    fault = slowmore.good_fault(sums, lost, thing)
                    self.assert_fault(fault, sums, lost, thing)
                faults.setdefault(fault and fault[0], True)
        self.assertEqual(set(faults), {None, "lack", "page", "sum"})

    def spoilt(self, rng, sums, lost):
        gone = slowmore.lost_pages(sums, lost)
        if gone and rng.random() < 0.4:
            return ("alike", sorted(rng.sample(gone, rng.randint(1, len(gone)))))
        word, told = made_good(sums, lost)
        ways = dict(told) if word == "made" else {page: [] for page in gone}
        for page in gone:
            if rng.random() < 0.2:
                kept = [(block, number) for block in range(6) for number in range(3) if (block, number) not in gone]
                ways[page] = sorted(set(ways[page]) ^ {rng.choice(kept)})
        if ways and rng.random() < 0.1:
            del ways[rng.choice(sorted(ways))]
        return ("made", ways)


class Losses(unittest.TestCase):

    def blocks_of(self, sums):
        return sorted({block for pages in sums for block, _ in pages})

    def test_by_hand(self):
        self.assertEqual([survives(SUMS, many) for many in range(5)], [True, True, False, False, True])
        self.assertIs(survives(SUMS, 10 ** 29), True)
        self.assertEqual(worst(SUMS), [0, 1])
        one = [[(3, 0), (3, 1), (5, 0)]]
        self.assertEqual([survives(one, many) for many in range(4)], [True, False, False, True])
        self.assertEqual(worst(one), [3])
        told = [[(0, 0), (1, 0)], [(0, 0), (2, 0)], ROW]
        self.assertEqual([survives(told, many) for many in range(5)], [True] * 5)
        self.assertIsNone(worst(told))

    def test_reckoned(self):
        rng = random.Random(281)
        found = []
        for _ in range(150):
            sums = some_sums(rng)
            blocks, kept = self.blocks_of(sums), repr(sums)
            bad = [list(lost) for many in range(len(blocks) + 1) for lost in itertools.combinations(blocks, many)
                   if not slowmore.can_be_made_good(sums, lost)]
            with self.subTest(sums):
                self.assertEqual(worst(sums), bad[0] if bad else None)
                for many in range(len(blocks) + 3):
                    self.assertIs(survives(sums, many), not [lost for lost in bad if len(lost) == many])
                self.assertEqual(repr(sums), kept)
            found.append(len(bad[0]) if bad else None)
        self.assertTrue({None, 1, 2, 3} <= set(found))

    def test_lists_are_new(self):
        worst(SUMS).clear()
        self.assertEqual(worst(SUMS), [0, 1])

    def test_all_blocks_and_all_sums(self):
        every = [(block, page) for block in range(9) for page in range(2)]
        rng = random.Random(282)
        for _ in range(20):
            sums = [sorted(rng.sample(every, 9)) for _ in range(8)]
            many = len(worst(sums))
            self.assertIs(survives(sums, many - 1), True)
            self.assertIs(survives(sums, many), False)
            self.assertIs(survives(sums, 9), False)
            first = next(list(lost) for lost in itertools.combinations(range(9), many)
                         if made_good(sums, list(lost))[0] == "alike")
            self.assertEqual(worst(sums), first)


class Crossed(unittest.TestCase):

    def test_by_hand(self):
        self.assertEqual(crossed(2, 1), [[(0, 0), (1, 0)]])
        self.assertEqual(crossed(3, 2), [[(0, 0), (1, 0), (2, 0)], [(0, 1), (1, 1), (2, 1)]])
        self.assertEqual(crossed(9, 6)[5], [(block, 5) for block in range(9)])

    def test_they_survive_the_loss_of_any_one_block_and_of_no_two(self):
        for blocks in range(2, 10):
            for pages in range(1, 7):
                sums = crossed(blocks, pages)
                self.assertEqual(len(sums), pages)
                self.assertIs(survives(sums, 1), True)
                self.assertIs(survives(sums, 2), False)
                self.assertEqual(worst(sums), [0, 1])
                for lost in itertools.combinations(range(blocks), 2):
                    self.assertEqual(made_good(sums, list(lost))[0], "alike")

    def test_errors_in_their_order(self):
        for blocks in [0, 1, 10, -1, 10 ** 29, True, None, "2", (), [2], STAND]:
            for pages in (1, 0, None, 7):
                with self.assertRaises(NoSpread) as caught:
                    crossed(blocks, pages)
                self.assertEqual(caught.exception.part, "blocks")
        for pages in [0, 7, -1, 10 ** 29, True, None, "1", (), [1], STAND]:
            with self.assertRaises(NoSpread) as caught:
                crossed(2, pages)
            self.assertEqual(caught.exception.part, "pages")

    def test_lists_are_new(self):
        sums = crossed(2, 2)
        sums[0].clear()
        sums.clear()
        self.assertEqual(crossed(2, 2), [[(0, 0), (1, 0)], [(0, 1), (1, 1)]])


if __name__ == "__main__":
    unittest.main()
