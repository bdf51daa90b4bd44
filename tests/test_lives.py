"""[10], [13], [14]: how many puts stands last."""

import random
import sys
import unittest

from spentblocks.errors import NoMost, TooMany
from spentblocks.judges import enemy_fault, plan_fault
from spentblocks.lives import enemy_plan, life, plan
from spentblocks.names import renamed
from spentblocks.stands import Stand, fresh, stand_of
from tests import slow

SMALL = Stand(1, [(1, (0,)), (0, ("free",))], 0, 0)
WRONG_BOUNDS = [0, -1, 100001, 10 ** 29, True, False, None, "20000", "", (), [5], 1.0]


def not_less(one, other):
    """Whether a life is not less than another one."""
    return one is None or other is not None and one >= other


class Examples(unittest.TestCase):

    def test_those_of_the_document(self):
        self.assertEqual(life(SMALL), 2)
        self.assertEqual(life(Stand(1, [(1, (0,)), (0, ("free",))], 1, 0)), 0)
        self.assertEqual(life(Stand(1, [(1, (0,)), (0, ("free",))], 0, 1)), 0)

    def test_the_two_longest_blocks_of_one_page(self):
        self.assertEqual(life(fresh(1, 2, 1, 99, 0, 0)), 200)

    def test_lives_by_hand(self):
        self.assertEqual(life(fresh(1, 1, 1, 0, 0, 0)), 1)
        self.assertEqual(life(fresh(1, 1, 6, 0, 0, 0)), 6)
        self.assertEqual(life(fresh(1, 2, 1, "ever", 0, 0)), None)
        self.assertEqual(life(fresh(2, 2, 1, "ever", 0, 0)), 2)
        self.assertEqual(life(fresh(1, 1, 1, "ever", 0, 0)), 1)
        self.assertEqual(life(Stand(2, [(0, (0, "free", "free"))], 0, 0)), 2)
        self.assertEqual(life(Stand(1, [(None, (0,))], 0, 0)), 0)
        self.assertEqual(life(Stand(1, [(3, ("old",))], 0, 0)), 1)
        self.assertEqual(life(Stand(1, [("ever", (0,))], 0, 0)), 0)

    def test_a_put_that_is_asked_counts(self):
        self.assertEqual(life(SMALL.put(0)), 2)
        self.assertEqual(life(Stand(2, [(0, (0, "free")), (0, (1, "free"))], 0, 0, asked=1)), 2)
        self.assertEqual(life(Stand(1, [(0, (0, "old"))], 0, 0, asked=0)), 0)

    def test_a_cut_put_does_not_count(self):
        self.assertEqual(life(fresh(1, 1, 3, 0, 0, 0)), 3)
        self.assertEqual(life(fresh(1, 1, 3, 0, 0, 1)), 2)
        self.assertEqual(life(fresh(1, 1, 3, 0, 0, 2)), 1)
        self.assertEqual(life(fresh(1, 1, 3, 0, 0, 3)), 0)

    def test_a_bad_block_is_lost_with_its_free_pages(self):
        self.assertEqual(life(fresh(1, 3, 1, 0, 1, 0)), 2)
        self.assertEqual(life(fresh(1, 3, 2, 0, 1, 0)), 4)
        self.assertEqual(life(fresh(1, 2, 2, 0, 2, 0)), 0)

    def test_acting_for_ever_without_serving_is_not_lasting(self):
        # Two blocks without an end of erases, and the third put always finds both of them full.
        self.assertEqual(life(Stand(2, [("ever", (0,)), ("ever", ("free",))], 0, 0)), 1)
        self.assertEqual(life(Stand(2, [("ever", (0,)), ("ever", (1,))], 0, 0)), 0)
        self.assertEqual(life(Stand(2, [("ever", (0,)), ("ever", (1,)), ("ever", ("old",))], 0, 0)), None)


class Reckoned(unittest.TestCase):

    def assert_slow(self, shapes):
        for shape in shapes:
            with self.subTest(shape):
                self.assertEqual(life(stand_of(shape)), slow.life(shape))

    def test_lives_of_mixed_stands(self):
        self.assert_slow(slow.some_shapes(5, 250))

    def test_lives_with_numbers_left(self):
        self.assert_slow(slow.some_shapes(6, 100, 900, lefts=(0, 1, 2)))

    def test_lives_with_ever_left(self):
        self.assert_slow(slow.some_shapes(7, 120, 900, lefts=("ever",)))

    def test_lives_with_ever_beside_numbers(self):
        self.assert_slow(slow.some_shapes(8, 120, 900, lefts=("ever", "ever", 1, 3, None)))

    def test_long_lives_with_ever_beside_numbers(self):
        for row in ([("ever", ("free",)), (9, ("free",))], [("ever", (0,)), (2, ("free",)), (7, ("old",))],
                    [("ever", (0, "free")), (4, ("old", "old"))], [("ever", ("old",)), (6, ("free",)), (None, (0,))]):
            for fails, cuts in ((0, 0), (1, 0), (0, 1)):
                shape = (1, tuple(row), fails, cuts, None)
                with self.subTest(shape):
                    self.assertEqual(life(stand_of(shape)), slow.life(shape))

    def test_lone_keys_on_blocks_of_one_page(self):
        # By [17]: with s the sum of the rooms, m the greatest, r = s - m, the less of s and 2 * r + 1, and so on.
        rng = random.Random(9)
        for _ in range(40):
            rooms = [rng.randint(0, 5) for _ in range(rng.randint(1, 4))]
            at = rng.choice([None] + list(range(len(rooms))))
            row = [(room, (0 if b == at else "old",)) for b, room in enumerate(rooms)]
            rest = sum(rooms) - max(rooms)
            alone = at is not None and rooms[at] == max(rooms) and rooms.count(max(rooms)) == 1
            least = min(sum(rooms), 2 * rest if alone else 2 * rest + 1)
            with self.subTest(row):
                self.assertEqual(life(Stand(1, row, 0, 0)), least)

    def test_which_fresh_stands_go_on_for_ever(self):
        # By [16]: exactly those with keys for (blocks - 1 - fails) * pages pages at most.
        for keys in (1, 2, 3):
            for blocks in (1, 2, 3):
                for pages in (1, 2):
                    for fails in (0, 1):
                        stand = fresh(keys, blocks, pages, "ever", fails, 0)
                        on = keys <= (blocks - 1 - fails) * pages
                        with self.subTest(keys=keys, blocks=blocks, pages=pages, fails=fails):
                            self.assertIs(life(stand) is None, on)


class Bounds(unittest.TestCase):

    def test_wrong_bounds(self):
        for most in WRONG_BOUNDS:
            with self.subTest(most):
                self.assertRaises(NoMost, life, SMALL, most=most)
                self.assertRaises(NoMost, plan, SMALL, most=most)
                self.assertRaises(NoMost, enemy_plan, SMALL, most=most)

    def test_right_bounds(self):
        one = Stand(1, [(None, (0,))], 0, 0, asked=0)
        for most in (1, 2, 100000):
            self.assertEqual(life(one, most=most), 0)

    def test_the_bound_is_given_by_its_name(self):
        for function in (life, plan, enemy_plan):
            self.assertRaises(TypeError, function, SMALL, 20000)

    def test_too_many_exactly(self):
        for shape in [SMALL.shape()] + slow.some_shapes(10, 80):
            stand, many = stand_of(shape), slow.count(shape)
            with self.subTest(shape):
                self.assertEqual(life(stand, most=many), life(stand))
                self.assertEqual(plan(stand, most=many), plan(stand))
                self.assertEqual(enemy_plan(stand, most=many), enemy_plan(stand))
                for function in (life, plan, enemy_plan):
                    if many > 1:
                        with self.assertRaises(TooMany) as caught:
                            function(stand, most=many - 1)
                        self.assertEqual(caught.exception.most, many - 1)

    def test_all_stands_count_also_where_no_plan_leads(self):
        # Two stands at rest, that with a copy and that without, each with its asked one, and one behind the other.
        self.assertEqual(slow.count(fresh(1, 1, 1, 0, 0, 0).shape()), 4)
        self.assertRaises(TooMany, life, fresh(1, 1, 1, 0, 0, 0), most=3)
        self.assertEqual(life(fresh(1, 1, 1, 0, 0, 0), most=4), 1)

    def test_the_bound_that_counts_without_one(self):
        stand = fresh(1, 3, 1, 8, 1, 1)
        with self.assertRaises(TooMany) as caught:
            life(stand)
        self.assertEqual(caught.exception.most, 20000)
        self.assertRaises(TooMany, plan, stand)
        self.assertRaises(TooMany, enemy_plan, stand)
        self.assertEqual(life(stand, most=100000), 16)

    def test_far_too_many(self):
        self.assertRaises(TooMany, life, fresh(9, 9, 6, "ever", 9, 9))

    def test_no_recursion_error_for_long_lives(self):
        low = sys.getrecursionlimit()
        sys.setrecursionlimit(180)
        try:
            stand = Stand(1, [("ever", ("free",)), (99, ("free",)), (10, ("free",))], 0, 0)
            many = life(stand, most=100000)
            entries, limits = plan(stand, most=100000), enemy_plan(stand, most=100000)
            faults = plan_fault(stand, many, entries), enemy_fault(stand, many, limits)
        finally:
            sys.setrecursionlimit(low)
        self.assertEqual(many, 223)
        self.assertEqual(faults, (None, None))

    def test_the_stand_stays(self):
        stand = fresh(2, 2, 2, 1, 1, 1)
        shape = stand.shape()
        life(stand)
        self.assertEqual(stand.shape(), shape)


class Facts(unittest.TestCase):

    def test_life_and_the_two_plans_agree(self):
        for shape in slow.some_shapes(11, 100):
            stand = stand_of(shape)
            many = life(stand)
            with self.subTest(shape):
                self.assertIsNone(plan_fault(stand, many, plan(stand)))
                if many is None:
                    self.assertIsNone(enemy_plan(stand))
                    continue
                self.assertIsNone(enemy_fault(stand, many, enemy_plan(stand)))
                self.assertEqual(plan_fault(stand, many + 1, plan(stand)), ("first",))
                if many > 0:
                    self.assertEqual(enemy_fault(stand, many - 1, enemy_plan(stand)), ("first",))

    def test_alike_stands_have_the_same_life(self):
        rng = random.Random(12)
        for shape in slow.some_shapes(12, 60):
            stand = stand_of(shape)
            other = renamed(stand, rng.choice(slow.orders(len(shape[1]))), rng.choice(slow.orders(shape[0])))
            self.assertEqual(life(other), life(stand))

    def test_better_stands_have_no_lesser_life(self):
        for shape in slow.some_shapes(13, 80, 120):
            for better in self.better(shape):
                with self.subTest(shape=shape, better=better):
                    self.assertTrue(not_less(life(stand_of(better), most=100000), life(stand_of(shape))))

    def better(self, shape):
        """Shapes that are better than this one by one thing each."""
        keys, blocks, fails, cuts, asked = shape
        found = [(keys, blocks, fails - 1, cuts, asked)] if fails else []
        found += [(keys, blocks, fails, cuts - 1, asked)] if cuts else []
        found.append((keys, blocks + ((0, ("free",) * len(blocks[0][1])),), fails, cuts, asked))
        for b, (left, pages) in enumerate(blocks):
            if left is None:
                continue
            for more in ([left + 1, "ever"] if left != "ever" else []):
                found.append((keys, blocks[:b] + ((more, pages),) + blocks[b + 1:], fails, cuts, asked))
            used = len(pages) - pages.count("free")
            if used and pages[used - 1] == "old":
                freed = (left, pages[:used - 1] + ("free",) * (len(pages) - used + 1))
                found.append((keys, blocks[:b] + (freed,) + blocks[b + 1:], fails, cuts, asked))
        return found

    def test_the_bound_by_pages(self):
        for shape in slow.some_shapes(14, 100, lefts=(0, 1, 2, None)):
            good = [(left, pages) for left, pages in shape[1] if left is not None]
            bound = sum(pages.count("free") + len(pages) * left for left, pages in good)
            self.assertLessEqual(life(stand_of(shape)), bound)

    def test_what_a_plan_promises_is_lasted_there(self):
        for shape in slow.some_shapes(15, 40):
            lives = slow.lives((shape, ()))
            for other, entry in plan(stand_of(shape)).items():
                self.assertTrue(not_less(lives[(other, ())], entry[0]))


if __name__ == "__main__":
    unittest.main()
