"""[18]: the least sizes that last so many puts."""

import itertools
import unittest

from spentblocks.errors import NoMost, NoPuts, NoStand, TooMany
from spentblocks.lives import life
from spentblocks.sizes import least_blocks, least_left
from spentblocks.stands import Stand, fresh
from tests import slow

WRONG_BOUNDS = [0, -1, 100001, 10 ** 29, True, False, None, "20000", "", (), [5]]
WRONG_PUTS = [0, -1, 100, 10 ** 29, True, False, None, "1", "", (), [1], {}]
WRONG_COUNTS = [-1, 10, True, False, None, "1", (), [1]]


def lasts(stand, puts, most=20000):
    many = life(stand, most=most)
    return many is None or many >= puts


def slow_least(stands, puts):
    """The index of the first stand that lasts so many puts, with the tests' own lives."""
    for at, stand in enumerate(stands):
        many = slow.life(stand.shape())
        if many is None or many >= puts:
            return at
    return None


class LeastLeft(unittest.TestCase):

    def test_by_hand(self):
        # One block: each erase gives its page one more put, but only when nothing current stands in it.
        self.assertEqual(least_left(1, 1, 1, 0, 0, 1), 0)
        self.assertIsNone(least_left(1, 1, 1, 0, 0, 2))
        self.assertEqual(least_left(1, 2, 1, 0, 0, 2), 0)
        self.assertEqual(least_left(1, 2, 1, 0, 0, 3), 1)
        self.assertEqual(least_left(1, 2, 1, 0, 0, 20), 9)
        self.assertIsNone(least_left(1, 2, 1, 0, 0, 21))
        self.assertIsNone(least_left(1, 2, 1, 0, 0, 99))
        self.assertIsNone(least_left(1, 1, 1, 1, 0, 1))

    def test_against_life(self):
        for sizes in ((1, 2, 1, 0, 0), (1, 2, 1, 0, 1), (1, 3, 1, 1, 0), (2, 2, 2, 0, 0), (3, 2, 1, 0, 0),
                      (1, 1, 2, 0, 2), (1, 2, 2, 0, 0)):
            keys, blocks, pages, fails, cuts = sizes
            lives = [life(fresh(keys, blocks, pages, left, fails, cuts), most=100000) for left in range(10)]
            for puts in (1, 2, 3, 4, 5, 9, 13, 20, 40):
                fits = [left for left in range(10) if lives[left] >= puts]
                with self.subTest(sizes=sizes, puts=puts):
                    self.assertEqual(least_left(*sizes, puts, most=100000), fits[0] if fits else None)

    def test_against_the_slow_reckoning(self):
        for keys, blocks, pages, fails, cuts in ((1, 2, 1, 0, 0), (2, 2, 1, 0, 0), (1, 2, 1, 1, 0), (1, 1, 2, 0, 1)):
            stands = [fresh(keys, blocks, pages, left, fails, cuts) for left in range(4)]
            for puts in (1, 2, 3, 4, 5, 6):
                found = slow_least(stands, puts)
                if found is not None:
                    self.assertEqual(least_left(keys, blocks, pages, fails, cuts, puts), found)

    def test_wrong_parts_in_their_order(self):
        right = (1, 2, 1, 0, 0)
        for at, part in enumerate(["keys", "blocks", "blocks", "fails", "cuts"]):
            wrong = [0, 10] if at < 2 else [0, 7] if at == 2 else []
            for value in WRONG_COUNTS + wrong:
                sizes = right[:at] + (value,) + (None,) * (4 - at)
                for puts, most in ((1, 20000), (0, 0)):
                    with self.assertRaises(NoStand) as caught:
                        least_left(*sizes, puts, most=most)
                    self.assertEqual(caught.exception.part, part)

    def test_puts_and_bounds(self):
        for puts in WRONG_PUTS:
            with self.subTest(puts):
                self.assertRaises(NoPuts, least_left, 1, 2, 1, 0, 0, puts)
                self.assertRaises(NoPuts, least_left, 1, 2, 1, 0, 0, puts, most=0)
        for most in WRONG_BOUNDS:
            with self.subTest(most):
                self.assertRaises(NoMost, least_left, 1, 2, 1, 0, 0, 1, most=most)
        self.assertRaises(TypeError, least_left, 1, 2, 1, 0, 0, 1, 20000)

    def test_too_many_for_just_the_numbers_that_are_asked(self):
        counts = [slow.count(fresh(1, 2, 1, left, 0, 1).shape()) for left in range(5)]
        lives = [slow.life(fresh(1, 2, 1, left, 0, 1).shape()) for left in range(5)]
        self.assertEqual(sorted(counts), counts)
        for left in range(4):
            puts = lives[left]
            first = lives.index(puts)
            self.assertEqual(least_left(1, 2, 1, 0, 1, puts, most=max(counts[:first + 1])), first)
            with self.assertRaises(TooMany) as caught:
                least_left(1, 2, 1, 0, 1, puts, most=max(counts[:first + 1]) - 1)
            self.assertEqual(caught.exception.most, max(counts[:first + 1]) - 1)

    def test_the_bound_that_counts_without_one(self):
        self.assertEqual(least_left(1, 3, 1, 0, 0, 3), 0)
        with self.assertRaises(TooMany) as caught:
            least_left(3, 4, 2, 1, 1, 99)
        self.assertEqual(caught.exception.most, 20000)


class LeastBlocks(unittest.TestCase):

    def test_by_hand(self):
        self.assertEqual(least_blocks(1, 1, 0, 0, 0, 1), 1)
        self.assertEqual(least_blocks(1, 1, 0, 0, 0, 6), 6)
        self.assertIsNone(least_blocks(1, 1, 0, 0, 0, 7))
        self.assertEqual(least_blocks(1, 6, 0, 0, 0, 6), 1)
        self.assertEqual(least_blocks(1, 1, "ever", 0, 0, 99), 2)
        self.assertEqual(least_blocks(1, 1, "ever", 1, 0, 99), 3)
        self.assertEqual(least_blocks(2, 2, "ever", 0, 0, 99), 2)
        self.assertEqual(least_blocks(3, 2, "ever", 0, 0, 99), 3)
        self.assertIsNone(least_blocks(1, 1, 0, 6, 0, 1))

    def test_against_life(self):
        for sizes in ((1, 1, 1, 0, 0), (1, 1, 0, 1, 1), (2, 1, 1, 0, 0), (2, 2, 0, 0, 0), (1, 1, 3, 0, 0)):
            keys, pages, left, fails, cuts = sizes
            for puts in (1, 2, 3, 4, 5, 6):
                found = least_blocks(*sizes, puts, most=100000)
                for blocks in range(1, (found or 6) + 1):
                    told = lasts(fresh(keys, blocks, pages, left, fails, cuts), puts, 100000)
                    with self.subTest(sizes=sizes, puts=puts, blocks=blocks):
                        self.assertIs(told, blocks == found)

    def test_wrong_parts_in_their_order(self):
        right = (1, 1, 1, 0, 0)
        for at, part in enumerate(["keys", "blocks", "blocks", "fails", "cuts"]):
            wrong = {0: [0, 10], 1: [0, 7], 2: [100, "never"]}.get(at, [])
            for value in [-1, True, False, None, "1", (), [1]] + wrong + ([10] if at in (1, 3, 4) else []):
                sizes = right[:at] + (value,) + (None,) * (4 - at)
                for puts, most in ((1, 20000), (0, 0)):
                    with self.subTest(sizes), self.assertRaises(NoStand) as caught:
                        least_blocks(*sizes, puts, most=most)
                    self.assertEqual(caught.exception.part, part)

    def test_puts_and_bounds(self):
        for puts in WRONG_PUTS:
            with self.subTest(puts):
                self.assertRaises(NoPuts, least_blocks, 1, 2, 1, 0, 0, puts)
                self.assertRaises(NoPuts, least_blocks, 1, 2, "ever", 0, 0, puts, most=0)
        for most in WRONG_BOUNDS:
            with self.subTest(most):
                self.assertRaises(NoMost, least_blocks, 1, 2, 1, 0, 0, 1, most=most)
        self.assertRaises(TypeError, least_blocks, 1, 2, 1, 0, 0, 1, 20000)

    def test_too_many_for_just_the_numbers_that_are_asked(self):
        counts = [slow.count(fresh(2, blocks, 1, 0, 0, 1).shape()) for blocks in range(1, 5)]
        lives = [slow.life(fresh(2, blocks, 1, 0, 0, 1).shape()) for blocks in range(1, 5)]
        self.assertEqual(lives, [0, 1, 2, 3])
        for blocks, many in zip(itertools.count(2), lives[1:]):
            most = max(counts[:blocks])
            self.assertEqual(least_blocks(2, 1, 0, 0, 1, many, most=most), blocks)
            with self.assertRaises(TooMany) as caught:
                least_blocks(2, 1, 0, 0, 1, many, most=most - 1)
            self.assertEqual(caught.exception.most, most - 1)

    def test_the_bound_that_counts_without_one(self):
        self.assertEqual(least_blocks(1, 3, 0, 0, 0, 3), 1)
        with self.assertRaises(TooMany) as caught:
            least_blocks(4, 2, 1, 1, 1, 99)
        self.assertEqual(caught.exception.most, 20000)


class Values(unittest.TestCase):

    def test_a_stand_is_no_number(self):
        stand = Stand(1, [(0, (0,))], 0, 0)
        self.assertRaises(NoStand, least_left, stand, 1, 1, 0, 0, 1)
        self.assertRaises(NoStand, least_blocks, 1, 1, stand, 0, 0, 1)
        self.assertRaises(NoPuts, least_blocks, 1, 1, 0, 0, 0, stand)


if __name__ == "__main__":
    unittest.main()
