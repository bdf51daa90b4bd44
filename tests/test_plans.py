"""[11], [12]: the plans that are told."""

import unittest

from spentblocks.lives import enemy_plan, life, plan
from spentblocks.stands import Stand, fresh, stand_of
from tests import slow

SMALL = Stand(1, [(1, (0,)), (0, ("free",))], 0, 0)


def is_count(thing):
    return type(thing) is int and thing >= 0


def as_views(thing):
    """The plan from views with no known keys."""
    return {(shape, ()): entry for shape, entry in thing.items()}


class Plans(unittest.TestCase):

    def assert_plan(self, shape):
        stand = stand_of(shape)
        told = plan(stand)
        many = life(stand)
        self.assertIsInstance(told, dict)
        for other, entry in told.items():
            self.assertEqual(stand_of(other).shape(), other)
            self.assertIsInstance(entry, tuple)
            promise, rank, act = entry
            self.assertTrue(promise is None or is_count(promise))
            self.assertTrue(is_count(rank))
            if promise == 0 or other[4] is None:
                self.assertIsNone(act)
        self.assertEqual(told[shape][0], many)
        self.assertIsNone(slow.plan_fault((shape, ()), many, as_views(told)))

    def test_clause_by_clause(self):
        for shape in slow.some_shapes(21, 150):
            with self.subTest(shape):
                self.assert_plan(shape)

    def test_clause_by_clause_with_ever_left(self):
        for shape in slow.some_shapes(22, 100, 900, lefts=("ever", "ever", 2)):
            with self.subTest(shape):
                self.assert_plan(shape)

    def test_clause_by_clause_with_copies_that_must_be_made(self):
        # Two keys share what is left: a copy or two and an erase stand before each write that serves.
        for stand in [fresh(2, 2, 2, "ever", 0, 0), fresh(3, 2, 3, "ever", 0, 0), fresh(2, 2, 2, 4, 0, 0),
                      fresh(2, 3, 2, "ever", 1, 0), fresh(2, 2, 3, "ever", 0, 1)]:
            with self.subTest(stand.shape()):
                self.assert_plan(stand.shape())
                acts = [act for promise, rank, act in plan(stand).values() if act is not None]
                self.assertEqual({act[0] for act in acts}, {"write", "copy", "erase"})

    def test_of_a_life_of_0(self):
        stand = Stand(1, [(0, (0,))], 0, 0)
        self.assertEqual(plan(stand)[stand.shape()], (0, 0, None))

    def test_equal_calls_give_equal_dicts(self):
        for stand in (SMALL, fresh(2, 2, 2, "ever", 0, 0), fresh(2, 2, 2, 1, 1, 1)):
            first = plan(stand)
            kept = dict(first)
            first.clear()
            self.assertEqual(plan(stand), kept)
            self.assertIsNot(plan(stand), plan(stand))


class EnemyPlans(unittest.TestCase):

    def assert_plan(self, shape):
        stand = stand_of(shape)
        told = enemy_plan(stand)
        many = life(stand)
        if many is None:
            self.assertIsNone(told)
            return
        self.assertIsInstance(told, dict)
        for other, entry in told.items():
            self.assertEqual(stand_of(other).shape(), other)
            self.assertIsInstance(entry, tuple)
            self.assertTrue(is_count(entry[0]))
            self.assertEqual(len(entry), 2)
        self.assertEqual(told[shape][0], many)
        self.assertIsNone(slow.enemy_fault((shape, ()), many, as_views(told)))

    def test_clause_by_clause(self):
        for shape in slow.some_shapes(23, 150):
            with self.subTest(shape):
                self.assert_plan(shape)

    def test_clause_by_clause_with_ever_left(self):
        for shape in slow.some_shapes(24, 100, 900, lefts=("ever", "ever", 2)):
            with self.subTest(shape):
                self.assert_plan(shape)

    def test_none_for_ever(self):
        self.assertIsNone(enemy_plan(fresh(1, 2, 1, "ever", 0, 0)))
        self.assertIsNone(enemy_plan(fresh(1, 2, 1, "ever", 0, 0).put(0)))
        self.assertIsNotNone(enemy_plan(fresh(2, 2, 1, "ever", 0, 0)))

    def test_no_acts_no_replies(self):
        stand = Stand(1, [(0, (0,))], 0, 0, asked=0)
        self.assertEqual(enemy_plan(stand), {stand.shape(): (0, {})})

    def test_each_choice_is_a_dict_of_its_own(self):
        told = enemy_plan(fresh(2, 2, 2, 1, 1, 1))
        choices = [choice for limit, choice in told.values() if isinstance(choice, dict)]
        self.assertEqual(len({id(choice) for choice in choices}), len(choices))

    def test_equal_calls_give_equal_dicts(self):
        for stand in (SMALL, fresh(2, 2, 2, 1, 1, 1)):
            first = enemy_plan(stand)
            kept = {shape: (limit, dict(choice) if isinstance(choice, dict) else choice)
                    for shape, (limit, choice) in first.items()}
            for limit, choice in first.values():
                if isinstance(choice, dict):
                    choice.clear()
            first.clear()
            self.assertEqual(enemy_plan(stand), kept)


if __name__ == "__main__":
    unittest.main()
