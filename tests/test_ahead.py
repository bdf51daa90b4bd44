"""[34]: lives and plans with the next puts known ahead."""

import itertools
import random
import unittest

from spentblocks.ahead import enemy_ahead, life_ahead, plan_ahead, worths
from spentblocks.errors import NoMost, NoNumber, NoPuts, NotAtRest, TooMany
from spentblocks.lives import life
from spentblocks.stands import Stand, fresh, stand_of
from tests import slow

PAIR = Stand(2, [(0, (0, "free")), (1, ("old", 1))], 0, 0)
WRONG_BOUNDS = [0, -1, 100001, 10 ** 29, True, False, None, "20000", "", (), [5], 1.0]
WRONG_ROWS = [None, True, 0, "00", (), (0, 1), {}, {0: 0}, [2], [0, 2], [-1], [True], [0, False], ["0"], [None], [(0,)],
              [[0]], [0, 0, 0, 0], [0, 1, 0, 1, 0]]
WRONG_WINDOWS = [-1, 4, 10 ** 29, True, False, None, "1", (), [1], 1.0]


def is_count(thing):
    return type(thing) is int and thing >= 0


def rows_of(keys, window):
    return [list(row) for row in itertools.product(range(keys), repeat=window)]


class Lives(unittest.TestCase):

    def test_with_no_known_puts_it_is_life(self):
        for shape in slow.some_shapes(41, 80, window=0):
            if shape[4] is None:
                self.assertEqual(life_ahead(stand_of(shape), []), life(stand_of(shape)))

    def test_by_hand_what_knowing_is_worth(self):
        # One page is free and one erase is left, that of the block with the key 0: only a put of 0 sets it free.
        stand = Stand(2, [(1, (0,)), (0, ("free",)), (0, ("old",))], 0, 0)
        self.assertEqual(life_ahead(stand, []), 1)
        self.assertEqual(life_ahead(stand, [0]), 2)
        self.assertEqual(life_ahead(stand, [1]), 1)
        self.assertEqual(life_ahead(stand, [1, 0]), 1)

    def test_lives_of_each_window(self):
        rng = random.Random(42)
        for window in (0, 1, 2, 3):
            for shape in slow.some_shapes(42 + window, 30, 700, window=max(window, 1)):
                row = [rng.randrange(shape[0]) for _ in range(window)]
                with self.subTest(shape=shape, row=row):
                    self.assertEqual(life_ahead(stand_of(shape), row), slow.life(shape, row))

    def test_lives_of_each_window_with_ever_left(self):
        rng = random.Random(46)
        for window in (1, 2, 3):
            for shape in slow.some_shapes(46 + window, 15, 1200, window=window, lefts=("ever", "ever", 1)):
                row = [rng.randrange(shape[0]) for _ in range(window)]
                with self.subTest(shape=shape, row=row):
                    self.assertEqual(life_ahead(stand_of(shape), row), slow.life(shape, row))

    def test_a_longer_row_is_worth_no_less(self):
        for shape in slow.some_shapes(50, 25, 400, window=2):
            for row in rows_of(shape[0], 2):
                lives = [life_ahead(stand_of(shape), row[:many]) for many in (0, 1, 2)]
                self.assertTrue(lives[2] is None or lives[1] is not None and lives[1] <= lives[2])
                self.assertTrue(lives[1] is None or lives[0] is not None and lives[0] <= lives[1])

    def test_the_row_stays(self):
        for function in (life_ahead, plan_ahead, enemy_ahead):
            row = [0, 1, 0]
            function(PAIR, row)
            self.assertEqual(row, [0, 1, 0])

    def test_errors_in_their_order(self):
        for function in (life_ahead, plan_ahead, enemy_ahead):
            for row in WRONG_ROWS:
                with self.subTest(row):
                    self.assertRaises(NoPuts, function, PAIR, row)
                    self.assertRaises(NoPuts, function, PAIR, row, most=0)
                    self.assertRaises(NotAtRest, function, PAIR.put(0), row, most=0)
            for most in WRONG_BOUNDS:
                with self.subTest(most):
                    self.assertRaises(NoMost, function, PAIR, [0], most=most)
            self.assertRaises(NotAtRest, function, PAIR.put(0), [])
            self.assertRaises(TypeError, function, PAIR, [0], 20000)

    def test_too_many_by_the_number_of_views(self):
        rng = random.Random(51)
        for window in (0, 1, 2, 3):
            for shape in slow.some_shapes(51 + window, 12, 500, window=max(window, 1)):
                row = [rng.randrange(shape[0]) for _ in range(window)]
                stand, many = stand_of(shape), slow.count(shape, row)
                for function in (life_ahead, plan_ahead, enemy_ahead):
                    with self.subTest(shape=shape, row=row):
                        self.assertEqual(function(stand, row, most=many), function(stand, row))
                        with self.assertRaises(TooMany) as caught:
                            function(stand, row, most=many - 1)
                        self.assertEqual(caught.exception.most, many - 1)

    def test_the_bound_that_counts_without_one(self):
        with self.assertRaises(TooMany) as caught:
            life_ahead(fresh(2, 3, 2, 1, 0, 0), [0, 1, 0])
        self.assertEqual(caught.exception.most, 20000)


class Plans(unittest.TestCase):

    def assert_views(self, told, shape, window):
        for other, row in told:
            self.assertEqual(stand_of(other).many(), shape[0])
            self.assertIs(type(row), tuple)
            self.assertEqual(len(row), window)

    def assert_plan(self, shape, row):
        stand, first = stand_of(shape), (shape, tuple(row))
        told, many = plan_ahead(stand, row), life_ahead(stand, row)
        self.assert_views(told, shape, len(row))
        for (other, _), (promise, rank, act) in told.items():
            self.assertTrue((promise is None or is_count(promise)) and is_count(rank))
            if promise == 0 or other[4] is None:
                self.assertIsNone(act)
        self.assertEqual(told[first][0], many)
        self.assertIsNone(slow.plan_fault(first, many, told))

    def assert_enemy_plan(self, shape, row):
        stand, first = stand_of(shape), (shape, tuple(row))
        told, many = enemy_ahead(stand, row), life_ahead(stand, row)
        if many is None:
            self.assertIsNone(told)
            return
        self.assert_views(told, shape, len(row))
        for limit, choice in told.values():
            self.assertTrue(is_count(limit))
        self.assertEqual(told[first][0], many)
        self.assertIsNone(slow.enemy_fault(first, many, told))

    def test_view_by_view(self):
        rng = random.Random(61)
        for window in (0, 1, 2, 3):
            for shape in slow.some_shapes(61 + window, 25, 700, window=max(window, 1)):
                row = [rng.randrange(shape[0]) for _ in range(window)]
                with self.subTest(shape=shape, row=row):
                    self.assert_plan(shape, row)
                    self.assert_enemy_plan(shape, row)

    def test_view_by_view_with_ever_left(self):
        rng = random.Random(65)
        for window in (1, 2):
            for shape in slow.some_shapes(65 + window, 20, 1200, window=window, lefts=("ever", "ever", 1)):
                row = [rng.randrange(shape[0]) for _ in range(window)]
                with self.subTest(shape=shape, row=row):
                    self.assert_plan(shape, row)
                    self.assert_enemy_plan(shape, row)

    def test_equal_calls_give_equal_dicts(self):
        for row in ([], [1], [0, 1], [1, 1, 0]):
            first, other = plan_ahead(PAIR, row), enemy_ahead(PAIR, row)
            kept = dict(first), {view: (limit, dict(choice) if isinstance(choice, dict) else choice)
                                 for view, (limit, choice) in other.items()}
            for limit, choice in other.values():
                if isinstance(choice, dict):
                    choice.clear()
            first.clear()
            other.clear()
            self.assertEqual((plan_ahead(PAIR, row), enemy_ahead(PAIR, row)), kept)


class Worths(unittest.TestCase):

    def test_for_each_window_the_least_life_of_all_rows(self):
        for window in (0, 1, 2, 3):
            for shape in slow.some_shapes(71 + window, 12, 500, window=max(window, 1)):
                found = [slow.least([slow.life(shape, row) for row in rows_of(shape[0], many)])
                         for many in range(window + 1)]
                with self.subTest(shape):
                    self.assertEqual(worths(stand_of(shape), window), found)

    def test_for_ever_with_some_or_all_rows(self):
        self.assertEqual(worths(fresh(1, 2, 1, "ever", 0, 0), 3), [None] * 4)
        stand = Stand(2, [("ever", (0,)), ("ever", ("free",))], 0, 0)
        self.assertEqual(worths(stand, 2), [slow.least([slow.life(stand.shape(), row) for row in rows_of(2, many)])
                                            for many in range(3)])

    def test_they_never_fall(self):
        for shape in slow.some_shapes(75, 25, 400, window=3):
            found = worths(stand_of(shape), 3)
            self.assertEqual(len(found), 4)
            self.assertEqual(found[0], life(stand_of(shape)))
            for one, other in zip(found, found[1:]):
                self.assertTrue(other is None or one is not None and one <= other)

    def test_errors_in_their_order(self):
        for window in WRONG_WINDOWS:
            with self.subTest(window):
                self.assertRaises(NoNumber, worths, PAIR, window)
                self.assertRaises(NoNumber, worths, PAIR, window, most=0)
                self.assertRaises(NotAtRest, worths, PAIR.put(0), window, most=0)
        for most in WRONG_BOUNDS:
            with self.subTest(most):
                for window in (0, 3):
                    self.assertRaises(NoMost, worths, PAIR, window, most=most)
        self.assertRaises(NotAtRest, worths, PAIR.put(0), 0)
        self.assertRaises(TypeError, worths, PAIR, 1, 20000)

    def test_too_many_exactly_if_one_of_the_rows_has_too_many(self):
        for window in (0, 1, 2, 3):
            for shape in slow.some_shapes(81 + window, 10, 400, window=max(window, 1)):
                stand = stand_of(shape)
                most = max(slow.count(shape, row) for many in range(window + 1) for row in rows_of(shape[0], many))
                with self.subTest(shape):
                    self.assertEqual(worths(stand, window, most=most), worths(stand, window))
                    with self.assertRaises(TooMany) as caught:
                        worths(stand, window, most=most - 1)
                    self.assertEqual(caught.exception.most, most - 1)

    def test_rows_that_have_not_too_many_views_each_but_all_together(self):
        shape = (2, ((1, (0, "old")), ("ever", ("free", "free"))), 0, 0, None)
        self.assertEqual(max(slow.count(shape, (key,)) for key in (0, 1)), 243)
        self.assertEqual(worths(stand_of(shape), 1, most=243), [4, 4])
        self.assertEqual([slow.life(shape), min(slow.life(shape, (key,)) for key in (0, 1))], [4, 4])
        shape = (2, (("ever", ("free",)), ("ever", (0,)), (0, ("free",))), 0, 1, None)
        self.assertEqual(worths(stand_of(shape), 1, most=283), worths(stand_of(shape), 1))
        self.assertEqual(worths(stand_of(shape), 1)[1], min(slow.life(shape, (key,)) for key in (0, 1)))

    def test_the_bound_that_counts_without_one(self):
        with self.assertRaises(TooMany) as caught:
            worths(fresh(2, 3, 2, 1, 0, 0), 3)
        self.assertEqual(caught.exception.most, 20000)


if __name__ == "__main__":
    unittest.main()
