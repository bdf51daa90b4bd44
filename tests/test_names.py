"""[9]: renamings and first names."""

import random
import unittest

from spentblocks.errors import NoNames
from spentblocks.names import first_name, renamed
from spentblocks.stands import Stand, stand_of
from tests import slow

ONE = Stand(3, [(1, (0, "free")), ("ever", ("old", 2)), (None, ("old", "old"))], 2, 1, asked=1)


class Renamed(unittest.TestCase):

    def assert_wrong(self, part, blocks, keys, stand=ONE):
        with self.assertRaises(NoNames) as caught:
            renamed(stand, blocks, keys)
        self.assertEqual(caught.exception.part, part)

    def test_blocks_and_keys_by_their_new_numbers(self):
        self.assertEqual(renamed(ONE, (2, 0, 1), (1, 2, 0)),
                         Stand(3, [(None, ("old", "old")), (1, (2, "free")), ("ever", ("old", 1))], 2, 1, asked=0))
        self.assertEqual(renamed(ONE, (1, 2, 0), (0, 1, 2)),
                         Stand(3, [("ever", ("old", 2)), (None, ("old", "old")), (1, (0, "free"))], 2, 1, asked=1))

    def test_nothing_changes_with_the_same_numbers(self):
        self.assertEqual(renamed(ONE, (0, 1, 2), (0, 1, 2)), ONE)
        self.assertEqual(renamed(Stand(1, [(0, ("free",))], 0, 0), (0,), (0,)), Stand(1, [(0, ("free",))], 0, 0))

    def test_a_stand_at_rest_stays_at_rest(self):
        rest = Stand(2, [(1, (0, 1))], 0, 3)
        self.assertEqual(renamed(rest, (0,), (1, 0)), Stand(2, [(1, (1, 0))], 0, 3))

    def test_wrong_orders(self):
        wrong = [None, True, 0, "012", [], (), {}, [0, 1, 2], (0, 1), (0, 1, 2, 3), (0, 1, 1), (1, 2, 3), (-1, 0, 1),
                 (0, True, 2), (False, 1, 2), (0, 1, "2"), (0, 1, None), ((0,), 1, 2), (0, 0, 1, 2), ([0], 1, 2), ONE]
        for order in wrong:
            with self.subTest(order):
                self.assert_wrong("blocks", order, (0, 1, 2))
                self.assert_wrong("keys", (0, 1, 2), order)
                self.assert_wrong("blocks", order, order)

    def test_blocks_and_keys_have_their_own_numbers(self):
        stand = Stand(3, [(0, ("old",)), (0, ("old",))], 0, 0)
        self.assertEqual(renamed(stand, (1, 0), (2, 1, 0)), stand)
        self.assert_wrong("blocks", (2, 1, 0), (2, 1, 0), stand)
        self.assert_wrong("keys", (1, 0), (1, 0), stand)

    def test_the_stand_stays(self):
        shape = ONE.shape()
        renamed(ONE, (2, 0, 1), (1, 2, 0))
        self.assertEqual(ONE.shape(), shape)


class FirstName(unittest.TestCase):

    def assert_name(self, blocks, keys, stand):
        self.assertEqual(first_name(stand), (blocks, keys))

    def test_bad_blocks_first_then_by_left_ever_last(self):
        row = [("ever", ("old",)), (10, ("old",)), (9, ("old",)), (None, ("old",)), (0, ("old",))]
        self.assert_name((3, 4, 2, 1, 0), (0,), Stand(1, row, 0, 0))
        self.assert_name((1, 0), (0,), Stand(1, [("ever", ("free",)), (99, ("old",))], 0, 0))
        self.assert_name((1, 0), (0,), Stand(1, [(0, ("free",)), (None, ("old",))], 0, 0))

    def test_those_with_one_left_by_their_pages_as_strings(self):
        row = [(1, ("old",)), (1, (1,)), (1, ("free",)), (1, (0,))]
        self.assert_name((3, 2, 1, 0), (0, 1), Stand(2, row, 0, 0, asked=0))
        self.assert_name((1, 2, 3, 0), (1, 0), Stand(2, row, 0, 0, asked=1))
        self.assert_name((2, 1, 3, 0), (1, 0), Stand(2, row, 0, 0))

    def test_the_first_page_that_differs_counts(self):
        row = [(1, (0, "old", "free")), (1, (1, "free", "free")), (1, (2, "old", "old"))]
        self.assert_name((1, 0, 2), (1, 0, 2), Stand(3, row, 0, 0))
        self.assert_name((2, 1, 0), (2, 1, 0), Stand(3, row, 0, 0, asked=2))

    def test_of_equal_blocks_the_lesser_index_is_first(self):
        self.assert_name((0, 1, 2), (0,), Stand(1, [(1, ("old",))] * 3, 0, 0))
        self.assert_name((0, 1, 2), (2, 0, 1), Stand(3, [(1, (2,)), (1, (0,)), (1, (1,))], 0, 0))

    def test_keys_as_they_stand_then_the_asked_one_then_the_others(self):
        row = [("ever", ("old", 3)), (None, (5, 1))]
        self.assert_name((1, 0), (5, 1, 3, 0, 2, 4), Stand(6, row, 0, 0))
        self.assert_name((1, 0), (5, 1, 3, 4, 0, 2), Stand(6, row, 0, 0, asked=4))
        self.assert_name((1, 0), (5, 1, 3, 0, 2, 4), Stand(6, row, 0, 0, asked=0))
        self.assert_name((1, 0), (5, 1, 3, 0, 2, 4), Stand(6, row, 0, 0, asked=1))
        self.assert_name((0,), (2, 0, 1), Stand(3, [(0, ("free",))], 0, 0, asked=2))

    def test_alike_stands_are_equal_by_their_first_names(self):
        rng = random.Random(3)
        for shape in slow.some_shapes(3, 60):
            stand = stand_of(shape)
            first = renamed(stand, *first_name(stand))
            for _ in range(5):
                blocks = rng.choice(slow.orders(len(stand.blocks())))
                keys = rng.choice(slow.orders(stand.many()))
                other = renamed(stand, blocks, keys)
                self.assertEqual(renamed(other, *first_name(other)), first)

    def test_stands_that_are_not_alike_are_not_equal_by_them(self):
        stands = [stand_of(shape) for shape in slow.some_shapes(4, 60)]
        for one in stands[:20]:
            alike = [renamed(one, blocks, keys).shape()
                     for blocks in slow.orders(len(one.blocks())) for keys in slow.orders(one.many())]
            for other in stands:
                equal = renamed(one, *first_name(one)) == renamed(other, *first_name(other))
                self.assertIs(equal, other.shape() in alike)


if __name__ == "__main__":
    unittest.main()
