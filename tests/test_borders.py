"""[16], [17]: which stores go on for ever, how, and what lone keys last."""

import random
import unittest

from spentblocks.borders import goes_on, kept_free, lone_life
from spentblocks.errors import NoIndex, NoRooms, NotAsked, NotAtRest, NotCalm, NotEver, NotOn, TooMany
from spentblocks.lives import life
from spentblocks.stands import Stand, fresh, stand_of
from tests import slow

ROUND = Stand(1, [("ever", (0,)), ("ever", ("free",))], 0, 0)
FULL = Stand(3, [("ever", (0, 1)), ("ever", (2, "free"))], 0, 0)
LARGE = fresh(9, 9, 6, "ever", 0, 0)


def some_calm(rng, most_blocks=3, most_pages=3, most_keys=4):
    """One shape at rest with no fails and no cuts, "ever" left in all good blocks."""
    keys, pages = rng.randint(1, most_keys), rng.randint(1, most_pages)
    rows = []
    for _ in range(rng.randint(1, most_blocks)):
        left = rng.choice(["ever"] * 4 + [None])
        free = 0 if left is None else rng.choice([0, 0, 1, pages, rng.randint(0, pages)])
        rows.append([left, ["old"] * (pages - min(free, pages)) + ["free"] * min(free, pages)])
    places = [(b, p) for b, (left, row) in enumerate(rows) for p, page in enumerate(row) if page == "old"]
    rng.shuffle(places)
    for key, (b, p) in zip(rng.sample(range(keys), rng.randint(0, keys)), places):
        rows[b][1][p] = key
    return (keys, tuple((left, tuple(row)) for left, row in rows), 0, 0, None)


def slow_goes_on(shape):
    """The border by the letter."""
    keys, blocks = shape[:2]
    good = [pages for left, pages in blocks if left is not None]
    if not good or keys > (len(good) - 1) * len(good[0]):
        return False
    return any(is_emptiable(good, b) for b in range(len(good)))


def is_emptiable(good, b):
    copies = [page for page in good[b] if type(page) is int]
    return len(copies) <= sum(pages.count("free") for at, pages in enumerate(good) if at != b)


class GoesOn(unittest.TestCase):

    def test_examples(self):
        self.assertIs(goes_on(ROUND), True)
        self.assertIs(goes_on(Stand(2, [("ever", (0, 1)), ("ever", ("old", "old"))], 0, 0)), True)
        self.assertIs(goes_on(FULL), False)

    def test_by_hand(self):
        self.assertIs(goes_on(Stand(1, [(None, (0,))], 0, 0)), False)
        self.assertIs(goes_on(Stand(1, [(None, (0,)), ("ever", ("free",))], 0, 0)), False)
        self.assertIs(goes_on(Stand(1, [(None, (0,)), ("ever", ("free",)), ("ever", ("old",))], 0, 0)), True)
        self.assertIs(goes_on(Stand(1, [("ever", ("free",))], 0, 0)), False)
        self.assertIs(goes_on(Stand(2, [("ever", (0, "old")), ("ever", (1, "old"))], 0, 0)), False)
        self.assertIs(goes_on(Stand(2, [("ever", (0, "old")), ("ever", (1, "free"))], 0, 0)), True)

    def test_against_life(self):
        rng = random.Random(161)
        found, large = [], 0
        for _ in range(400):
            shape = some_calm(rng)
            with self.subTest(shape):
                told = goes_on(stand_of(shape))
                self.assertIs(told, slow_goes_on(shape))
                try:
                    many = life(stand_of(shape), most=2500)
                except TooMany:
                    large += 1
                    continue
                self.assertIs(told, many is None)
                found.append(told)
                self.assert_bounds(shape, many)
        self.assertGreater(found.count(True), 50)
        self.assertGreater(found.count(False), 50)
        self.assertLess(large, 150)

    def assert_bounds(self, shape, many):
        good = [pages for left, pages in shape[1] if left is not None]
        if many is not None:
            self.assertLessEqual(many, sum(len(pages) for pages in good))
        if not any(is_emptiable(good, b) for b in range(len(good))):
            self.assertLessEqual(many, sum(pages.count("free") for pages in good))

    def test_against_the_letter_for_larger_stands(self):
        rng = random.Random(162)
        found = []
        for _ in range(2000):
            shape = some_calm(rng, 9, 6, 9)
            found.append(goes_on(stand_of(shape)))
            self.assertIs(found[-1], slow_goes_on(shape))
        self.assertGreater(min(found.count(True), found.count(False)), 300)

    def test_keys_at_the_edge(self):
        for blocks in range(1, 10):
            for pages in range(1, 7):
                for keys in range(1, 10):
                    stand = fresh(keys, blocks, pages, "ever", 0, 0)
                    self.assertIs(goes_on(stand), keys <= (blocks - 1) * pages)

    def test_the_largest_stands(self):
        self.assertIs(goes_on(LARGE), True)
        rows = [("ever", ("old",) * 6)] * 7 + [("ever", (0, 1, 2, 3, 4, 5)), ("ever", (6, 7, 8, "old", "old", "old"))]
        self.assertIs(goes_on(Stand(9, rows, 0, 0)), True)
        rows = [("ever", (key, "old", "old", "old", "old", "old")) for key in range(9)]
        self.assertIs(goes_on(Stand(9, rows, 0, 0)), False)
        rows[8] = ("ever", (8, "old", "old", "old", "old", "free"))
        self.assertIs(goes_on(Stand(9, rows, 0, 0)), True)

    def test_errors_in_their_order(self):
        for fails, cuts in ((1, 0), (0, 1), (9, 9)):
            self.assertRaises(NotCalm, goes_on, fresh(1, 2, 1, "ever", fails, cuts))
            self.assertRaises(NotCalm, goes_on, fresh(1, 2, 1, 99, fails, cuts))
            self.assertRaises(NotCalm, goes_on, fresh(1, 2, 1, 99, fails, cuts).put(0))
        for left in (0, 1, 99):
            for rows in ([(left, (0,))], [("ever", (0,)), (left, ("free",))], [(None, (0,)), (left, ("old",))]):
                self.assertRaises(NotEver, goes_on, Stand(1, rows, 0, 0))
                self.assertRaises(NotEver, goes_on, Stand(1, rows, 0, 0, asked=0))
        self.assertRaises(NotAtRest, goes_on, ROUND.put(0))
        self.assertRaises(NotAtRest, goes_on, LARGE.put(8))

    def test_with_fails_left(self):
        for keys in (1, 2, 3):
            for blocks in (1, 2, 3, 4):
                for pages in (1, 2):
                    for fails in (0, 1, 2):
                        self.assert_with_fails(keys, blocks, pages, fails)

    def assert_with_fails(self, keys, blocks, pages, fails):
        with self.subTest(keys=keys, blocks=blocks, pages=pages, fails=fails):
            try:
                many = life(fresh(keys, blocks, pages, "ever", fails, 0), most=9000)
            except TooMany:
                return
            self.assertIs(many is None, keys <= (blocks - 1 - fails) * pages)


class KeptFree(unittest.TestCase):

    def assert_serves(self, shape):
        """Follows the acts for each key that can be asked."""
        for key in range(shape[0]):
            end, acts = slow.told((shape, ()), key)[0], []
            while end[4] is not None:
                act = kept_free(stand_of(end))
                self.assertEqual(act, kept_free(stand_of(end)))
                self.assertIn(act, slow.acts(end))
                end, served = slow.after(end, act, "done")
                acts.append(act)
                self.assertLessEqual(len(acts), len(shape[1][0][1]) + 1)
            self.assertTrue(served)
            self.assertEqual(acts[-1][0], "write")
            self.assertTrue(slow_goes_on(end))

    def test_by_hand(self):
        self.assertEqual(kept_free(ROUND.put(0)), ("write", 1))
        stand = Stand(1, [("ever", (0,)), ("ever", ("old",))], 0, 0, asked=0)
        self.assertEqual(kept_free(stand), ("erase", 1))

    def test_small_stands(self):
        rng, many = random.Random(171), 0
        while many < 400:
            shape = some_calm(rng, 4, 3, 4)
            if slow_goes_on(shape):
                many += 1
                with self.subTest(shape):
                    self.assert_serves(shape)

    def test_large_stands(self):
        rng, many = random.Random(172), 0
        while many < 300:
            shape = some_calm(rng, 9, 6, 9)
            if slow_goes_on(shape):
                many += 1
                with self.subTest(shape):
                    self.assert_serves(shape)

    def test_full_stands(self):
        # All keys that can be have copies, and there is just as much room as it takes to empty one block.
        for pages in range(1, 7):
            for blocks in range(2, 10):
                keys = min(9, (blocks - 1) * pages)
                every = list(range(keys)) + ["old"] * (blocks * pages - keys)
                for seed in range(6):
                    random.Random(seed).shuffle(every)
                    rows = [("ever", tuple(every[b * pages:(b + 1) * pages])) for b in range(blocks)]
                    for free in range(0, pages + 1):
                        shape = (keys, tuple(self.with_free(rows, free)), 0, 0, None)
                        if slow_goes_on(shape):
                            with self.subTest(shape):
                                self.assert_serves(shape)

    def with_free(self, rows, many):
        """The rows with up to so many free pages in the place of last old ones."""
        found = []
        for left, pages in rows:
            free = 0
            while many and free < len(pages) and pages[len(pages) - free - 1] == "old":
                free += 1
                many -= 1
            found.append((left, pages[:len(pages) - free] + ("free",) * free))
        return found

    def test_row_after_row_of_puts(self):
        rng = random.Random(173)
        shape = LARGE.shape()
        for _ in range(300):
            end = slow.told((shape, ()), rng.randrange(9))[0]
            while end[4] is not None:
                end, _ = slow.after(end, kept_free(stand_of(end)), "done")
            shape = end

    def test_errors_in_their_order(self):
        self.assertRaises(NotAsked, kept_free, ROUND)
        self.assertRaises(NotAsked, kept_free, fresh(1, 2, 1, 0, 1, 1))
        self.assertRaises(NotAsked, kept_free, FULL)
        for fails, cuts in ((1, 0), (0, 1)):
            self.assertRaises(NotCalm, kept_free, fresh(1, 2, 1, "ever", fails, cuts).put(0))
            self.assertRaises(NotCalm, kept_free, fresh(1, 2, 1, 0, fails, cuts).put(0))
            self.assertRaises(NotCalm, kept_free, fresh(9, 1, 1, 0, fails, cuts).put(0))
        self.assertRaises(NotEver, kept_free, fresh(9, 1, 1, 0, 0, 0).put(0))
        self.assertRaises(NotEver, kept_free, Stand(1, [("ever", (0,)), (99, ("free",))], 0, 0, asked=0))
        for key in range(3):
            self.assertRaises(NotOn, kept_free, FULL.put(key))
        self.assertRaises(NotOn, kept_free, fresh(1, 1, 1, "ever", 0, 0).put(0))
        self.assertRaises(NotOn, kept_free, Stand(1, [(None, (0,))], 0, 0, asked=0))


class LoneLife(unittest.TestCase):

    def test_examples(self):
        self.assertEqual(lone_life([1, 1], 0), 2)
        self.assertEqual(lone_life([3, 1], 0), 2)
        self.assertEqual(lone_life([1, 3], 0), 3)

    def test_the_greatest_room(self):
        self.assertEqual(lone_life([5, 2, 1], 0), 6)
        self.assertEqual(lone_life([5, 2, 1], 1), 7)
        self.assertEqual(lone_life([5, 2, 1], None), 7)
        self.assertEqual(lone_life([5, 5, 1], 0), 11)
        self.assertEqual(lone_life([5, 5], 1), 10)
        self.assertEqual(lone_life([5, 4, 1], 0), 10)
        self.assertEqual(lone_life([5, 4], 0), 8)

    def test_edges(self):
        for at in (None, 0):
            self.assertEqual(lone_life([0], at), 0)
        self.assertEqual(lone_life([1], None), 1)
        self.assertEqual(lone_life([1], 0), 0)
        self.assertEqual(lone_life([10 ** 9], None), 1)
        self.assertEqual(lone_life([10 ** 9], 0), 0)
        self.assertEqual(lone_life([0, 0, 0], 2), 0)
        self.assertEqual(lone_life([10 ** 9, 10 ** 9], 0), 2 * 10 ** 9)
        self.assertEqual(lone_life([10 ** 9] * 100, 99), 10 ** 11)
        self.assertEqual(lone_life([10 ** 9] + [1] * 99, 0), 198)
        self.assertEqual(lone_life([1] * 99 + [10 ** 9], 0), 199)

    def test_against_life(self):
        rng = random.Random(174)
        for _ in range(150):
            many = rng.randint(1, 4)
            at = rng.choice([None] + list(range(many)))
            rows, rooms = [], []
            for b in range(many):
                left, page = rng.randint(0, 4), rng.choice(["old", "free"])
                rows.append((left, (0 if b == at else page,)))
                rooms.append(left + (1 if rows[b][1] == ("free",) else 0))
            with self.subTest(rows):
                self.assertEqual(lone_life(rooms, at), life(Stand(1, rows, 0, 0)))
                self.assertEqual(len(rooms), many)

    def test_rooms(self):
        for rooms in [None, True, 0, "1", (), (1, 1), {}, {0: 1}, [], [0] * 101, [-1], [1, -1], [10 ** 9 + 1], [10 ** 29],
                      [True], [1, False], [None], ["1"], ["ever"], [[1]], [(1,)], [1, ROUND], ROUND]:
            with self.subTest(rooms):
                for at in (None, 0, 5, True, "0"):
                    self.assertRaises(NoRooms, lone_life, rooms, at)

    def test_indexes(self):
        for at in [-1, 2, 99, 10 ** 29, True, False, "0", "", (), [0], {}, ROUND]:
            with self.subTest(at):
                self.assertRaises(NoIndex, lone_life, [1, 1], at)
        self.assertRaises(NoIndex, lone_life, [1], 1)

    def test_the_rooms_stay(self):
        rooms = [3, 1, 2]
        lone_life(rooms, 1)
        self.assertEqual(rooms, [3, 1, 2])


if __name__ == "__main__":
    unittest.main()
