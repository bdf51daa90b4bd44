"""[6]: stands, their parts and their shapes."""

import unittest

from spentblocks.errors import NoKey, NoStand
from spentblocks.stands import Stand, fresh, stand_of

ROW = [(1, (0, "free")), ("ever", ("old", 1)), (None, ("old", "old"))]
SHAPE = (3, ((1, (0, "free")), ("ever", ("old", 1)), (None, ("old", "old"))), 2, 1, 2)
WRONG_NUMBERS = [True, False, None, "1", (), [], 1.0, 10 ** 29, -10 ** 29]


class StandCase(unittest.TestCase):

    def assert_part(self, part, *args, **more):
        with self.assertRaises(NoStand) as caught:
            Stand(*args, **more)
        self.assertEqual(caught.exception.part, part)

    def assert_blocks_wrong(self, blocks, keys=3):
        self.assert_part("blocks", keys, blocks, 0, 0)

    def assert_blocks_right(self, blocks, keys=3):
        self.assertEqual(Stand(keys, blocks, 0, 0).blocks(), blocks)


class Parts(StandCase):

    def test_parts_are_told(self):
        stand = Stand(3, ROW, 2, 1, asked=2)
        self.assertEqual(stand.many(), 3)
        self.assertEqual(stand.blocks(), ROW)
        self.assertIsInstance(stand.blocks(), list)
        self.assertEqual(stand.fails(), 2)
        self.assertEqual(stand.cuts(), 1)
        self.assertEqual(stand.asked(), 2)
        self.assertEqual(stand.shape(), SHAPE)

    def test_a_stand_is_at_rest_unless_told(self):
        self.assertIsNone(Stand(3, ROW, 2, 1).asked())
        self.assertIsNone(Stand(3, ROW, 2, 1, asked=None).asked())
        self.assertEqual(Stand(3, ROW, 2, 1).shape(), SHAPE[:4] + (None,))
        with self.assertRaises(TypeError):
            Stand(3, ROW, 2, 1, 2)

    def test_parts_are_told_anew_whatever_becomes_of_lists(self):
        rows = list(ROW)
        stand = Stand(3, rows, 2, 1, asked=2)
        rows[0] = (5, ("old", "old"))
        rows.append((0, ("old", "old")))
        self.assertEqual(stand.blocks(), ROW)
        told = stand.blocks()
        told.clear()
        self.assertEqual(stand.blocks(), ROW)
        self.assertIsNot(stand.blocks(), stand.blocks())
        self.assertEqual(stand.shape(), SHAPE)

    def test_handed_in_lists_stay(self):
        rows = list(ROW)
        Stand(3, rows, 2, 1)
        self.assertEqual(rows, ROW)

    def test_where(self):
        stand = Stand(3, ROW, 2, 1)
        self.assertEqual(stand.where(0), (0, 0))
        self.assertEqual(stand.where(1), (1, 1))
        self.assertIsNone(stand.where(2))
        self.assertEqual(Stand(1, [(None, ("old", 0))], 0, 0).where(0), (0, 1))

    def test_where_of_what_is_no_key(self):
        for key in [-1, 3, 4, True, False, None, "0", (0,), [0], "free", "old", 10 ** 29]:
            with self.subTest(key):
                self.assertRaises(NoKey, Stand(3, ROW, 2, 1).where, key)


class WrongParts(StandCase):

    def test_keys(self):
        for keys in (1, 9):
            self.assertEqual(Stand(keys, [(0, ("old",))], 0, 0).many(), keys)
        for keys in [0, 10, -1] + WRONG_NUMBERS:
            with self.subTest(keys):
                self.assert_part("keys", keys, [(0, ("old",))], 0, 0)

    def test_number_of_blocks(self):
        for many in (1, 9):
            self.assert_blocks_right([(0, ("old",))] * many)
        for many in (0, 10):
            self.assert_blocks_wrong([(0, ("old",))] * many)

    def test_blocks_are_a_list(self):
        for blocks in [((0, ("old",)),), None, True, 1, "free", {}, {0: (0, ("old",))}, Stand(1, [(0, (0,))], 0, 0)]:
            with self.subTest(blocks):
                self.assert_blocks_wrong(blocks)

    def test_blocks_are_tuples_of_two(self):
        for block in [[0, ("old",)], (0,), (), (0, ("old",), 0), None, 0, "ab", True, {}]:
            with self.subTest(block):
                self.assert_blocks_wrong([block])
                self.assert_blocks_wrong([(0, ("old",)), block])

    def test_left(self):
        for left in (0, 1, 99, "ever", None):
            self.assert_blocks_right([(left, ("old",))])
        for left in [100, -1, True, False, "", "Ever", "bad", (), [], 1.0, 10 ** 29]:
            with self.subTest(left):
                self.assert_blocks_wrong([(left, ("old",))])
                self.assert_blocks_wrong([(0, ("old",)), (left, ("old",))])

    def test_number_of_pages(self):
        for many in (1, 6):
            self.assert_blocks_right([(0, ("old",) * many)])
            self.assert_blocks_right([(0, ("free",) * many), (1, ("old",) * many)])
        for many in (0, 7):
            self.assert_blocks_wrong([(0, ("old",) * many)])

    def test_as_many_pages_in_each_block(self):
        self.assert_blocks_wrong([(0, ("old",)), (0, ("old", "old"))])
        self.assert_blocks_wrong([(0, ("old", "old")), (0, ("old",))])
        self.assert_blocks_wrong([(0, ("old",)), (0, ("old",)), (0, ("old", "old"))])

    def test_pages_are_a_tuple(self):
        for pages in [["old"], "old", None, 0, {"old": 1}, True]:
            with self.subTest(pages):
                self.assert_blocks_wrong([(0, pages)])

    def test_pages_are_free_or_old_or_a_key(self):
        for page in (0, 1, 2, "free", "old"):
            self.assert_blocks_right([(0, (page,))])
        for page in [3, -1, True, False, None, "", "bad", "Free", "0", (0,), [0], 1.0, 10 ** 29]:
            with self.subTest(page):
                self.assert_blocks_wrong([(0, (page,))])
                self.assert_blocks_wrong([(0, ("old",)), (0, (page,))])
        self.assert_blocks_right([(0, (8,))], keys=9)
        self.assert_blocks_wrong([(0, (8,))], keys=8)

    def test_free_pages_stand_behind_all_others(self):
        self.assert_blocks_right([(0, ("old", 0, "free", "free"))])
        self.assert_blocks_right([(0, (0, "old", "old", "free"))])
        self.assert_blocks_wrong([(0, ("free", "old"))])
        self.assert_blocks_wrong([(0, ("free", 0))])
        self.assert_blocks_wrong([(0, ("old", "free", "old", "free"))])
        self.assert_blocks_wrong([(0, ("old", "old")), (0, ("free", 0))])

    def test_a_bad_block_has_no_free_page(self):
        self.assert_blocks_right([(None, (0, "old"))])
        self.assert_blocks_wrong([(None, ("free", "free"))])
        self.assert_blocks_wrong([(None, (0, "free"))])

    def test_no_key_stands_twice(self):
        self.assert_blocks_right([(0, (0, 1)), (0, (2, "old"))])
        self.assert_blocks_wrong([(0, (0, 0))])
        self.assert_blocks_wrong([(0, (0, 1)), (0, (2, 1))])
        self.assert_blocks_wrong([(0, (0, 1)), (None, (2, 0))])

    def test_fails_and_cuts(self):
        for many in (0, 1, 9):
            self.assertEqual(Stand(3, ROW, many, 0).fails(), many)
            self.assertEqual(Stand(3, ROW, 0, many).cuts(), many)
        for many in [10, -1] + WRONG_NUMBERS:
            with self.subTest(many):
                self.assert_part("fails", 3, ROW, many, 0)
                self.assert_part("cuts", 3, ROW, 0, many)

    def test_asked(self):
        for key in (0, 1, 2):
            self.assertEqual(Stand(3, ROW, 0, 0, asked=key).asked(), key)
        for key in [3, -1, True, False, "0", "", (), [], 1.0, 10 ** 29]:
            with self.subTest(key):
                self.assert_part("asked", 3, ROW, 0, 0, asked=key)

    def test_the_first_wrong_part_is_named(self):
        wrong = [0, [], 10, -1, 9]
        right = [3, ROW, 0, 0, None]
        names = ["keys", "blocks", "fails", "cuts", "asked"]
        for first in range(5):
            for other in range(first, 5):
                parts = [wrong[at] if at in (first, other) else right[at] for at in range(5)]
                with self.subTest(parts=parts):
                    self.assert_part(names[first], *parts[:4], asked=parts[4])
            parts = right[:first] + wrong[first:]
            self.assert_part(names[first], *parts[:4], asked=parts[4])


class Shapes(StandCase):

    def test_stand_of_right_shapes(self):
        stand = stand_of(SHAPE)
        self.assertIsInstance(stand, Stand)
        self.assertEqual(stand.shape(), SHAPE)
        self.assertEqual(stand, Stand(3, ROW, 2, 1, asked=2))
        rest = SHAPE[:4] + (None,)
        self.assertEqual(stand_of(rest).shape(), rest)

    def test_stand_of_bent_shapes(self):
        blocks = SHAPE[1]
        bent = [
            None, True, 3, "shape", [], {}, (), list(SHAPE), SHAPE[:4], SHAPE + (None,), Stand(3, ROW, 2, 1),
            (0,) + SHAPE[1:], (10,) + SHAPE[1:], (True, ((0, (0,)),), 0, 0, None),
            (3, list(blocks), 2, 1, 2), (3, (), 2, 1, 2), (3, None, 2, 1, 2), (3, "ab", 2, 1, 2),
            (3, ([1, (0, "free")],) + blocks[1:], 2, 1, 2), (3, ((1, [0, "free"]),) + blocks[1:], 2, 1, 2),
            (3, ((True, (0, "free")),) + blocks[1:], 2, 1, 2), (3, ((1, (False, "free")),) + blocks[1:], 2, 1, 2),
            (3, ((1, ("free", 0)),) + blocks[1:], 2, 1, 2), (3, ((1, (1, "free")),) + blocks[1:], 2, 1, 2),
            (3, blocks, True, 1, 2), (3, blocks, 10, 1, 2), (3, blocks, 2, False, 2), (3, blocks, 2, -1, 2),
            (3, blocks, 2, 1, True), (3, blocks, 2, 1, 3), (3, blocks, 2, 1, "0"), (3, blocks, 2, 1, (2,)),
        ]
        for shape in bent:
            with self.subTest(shape):
                with self.assertRaises(NoStand) as caught:
                    stand_of(shape)
                self.assertEqual(caught.exception.part, "shape")

    def test_equal_stands(self):
        stand = Stand(3, ROW, 2, 1, asked=2)
        self.assertTrue(stand == Stand(3, list(ROW), 2, 1, asked=2))
        self.assertFalse(stand != Stand(3, list(ROW), 2, 1, asked=2))
        for other in [Stand(4, ROW, 2, 1, asked=2), Stand(3, ROW[::-1], 2, 1, asked=2), Stand(3, ROW, 1, 1, asked=2),
                      Stand(3, ROW, 2, 0, asked=2), Stand(3, ROW, 2, 1, asked=1), Stand(3, ROW, 2, 1)]:
            self.assertFalse(stand == other)
            self.assertTrue(stand != other)

    def test_no_other_value_is_equal(self):
        stand = Stand(3, ROW, 2, 1, asked=2)
        for other in [SHAPE, None, True, 3, "stand", [stand], (stand,), {}]:
            with self.subTest(other):
                self.assertIs(stand == other, False)
                self.assertIs(other == stand, False)
                self.assertTrue(stand != other)


class Fresh(StandCase):

    def assert_fresh_wrong(self, part, *args):
        with self.assertRaises(NoStand) as caught:
            fresh(*args)
        self.assertEqual(caught.exception.part, part)

    def test_fresh(self):
        self.assertEqual(fresh(2, 3, 2, 4, 1, 5), Stand(2, [(4, ("free", "free"))] * 3, 1, 5))
        self.assertEqual(fresh(1, 1, 1, "ever", 0, 0), Stand(1, [("ever", ("free",))], 0, 0))
        self.assertEqual(fresh(9, 9, 6, 99, 9, 9), Stand(9, [(99, ("free",) * 6)] * 9, 9, 9))
        self.assertEqual(fresh(2, 1, 1, 0, 0, 0).shape(), (2, ((0, ("free",)),), 0, 0, None))

    def test_wrong_parts(self):
        for wrong in [0, 10] + WRONG_NUMBERS:
            with self.subTest(wrong):
                self.assert_fresh_wrong("keys", wrong, 2, 2, 2, 0, 0)
                self.assert_fresh_wrong("blocks", 2, wrong, 2, 2, 0, 0)
                self.assert_fresh_wrong("blocks", 2, 2, wrong, 2, 0, 0)
        self.assert_fresh_wrong("blocks", 2, 2, 7, 2, 0, 0)
        for left in [100, -1, None, True, False, "", "free", (), [], 1.0]:
            with self.subTest(left):
                self.assert_fresh_wrong("blocks", 2, 2, 2, left, 0, 0)
        for wrong in [10, -1] + WRONG_NUMBERS:
            with self.subTest(wrong):
                self.assert_fresh_wrong("fails", 2, 2, 2, 2, wrong, 0)
                self.assert_fresh_wrong("cuts", 2, 2, 2, 2, 0, wrong)

    def test_the_first_wrong_part_is_named(self):
        self.assert_fresh_wrong("keys", 0, 0, 0, -1, -1, -1)
        self.assert_fresh_wrong("keys", 10, 2, 2, 2, 10, 2)
        self.assert_fresh_wrong("blocks", 1, 0, 2, 2, -1, -1)
        self.assert_fresh_wrong("blocks", 1, 2, 0, 2, -1, -1)
        self.assert_fresh_wrong("blocks", 1, 2, 2, -1, -1, -1)
        self.assert_fresh_wrong("fails", 1, 2, 2, 2, -1, -1)
        self.assert_fresh_wrong("cuts", 1, 2, 2, 2, 0, -1)


if __name__ == "__main__":
    unittest.main()
