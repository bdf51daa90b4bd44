"""[15]: good acts, hard keys, and where lives fall."""

import random
import unittest

from spentblocks.advice import falls, good_acts, hard_keys
from spentblocks.errors import NoMost, NoRow, NotAsked, NotAtRest, TooMany
from spentblocks.lives import life
from spentblocks.stands import Stand, fresh, stand_of
from tests import slow

SMALL = Stand(1, [(1, (0,)), (0, ("free",))], 0, 0)
FAILING = Stand(2, [(1, (0, "free")), (0, ("old", "free")), ("ever", ("free", "free"))], 1, 1)
WRITE = (("write", 1), "done")
WRONG_BOUNDS = [0, -1, 100001, 10 ** 29, True, False, None, "20000", "", (), [5]]
NO_ROWS = [None, True, False, 0, "", "0", (), (0,), (0, WRITE), {}, {0: 0}, SMALL]
ODD_ITEMS = [None, True, False, -1, 1, 9, "", "0", (), [], {}, [0], (0,), SMALL, WRITE, ("write", 1), ("write", 1, "done"),
             [("write", 1), "done"]]
ODD_ANSWERS = [None, True, 0, "done", ("write", 1), ("write", 1, "done"), [("write", 1), "done"], (["write", 1], "done"),
               (("write", True), "done"), (("write", 0), "done"), (("write", 2), "done"), (("erase", 0), "done"),
               (("copy", 0, 0), "done"), (("copy", False, 1), "done"), (("write", 1), "bad"), (("write", 1), "cut"),
               (("write", 1), "late"), (("write", 1), ("done",)), (("write", 1), True), (("write", 1), None),
               (("write", 1), ["done"]), (("write", 1), "done", 0), (None, "done"), ((), "done"), (("write",), "done")]


def plus(many, served):
    return None if many is None else many + served


def slow_good(shape):
    """The good acts of an asked stand, by the letter."""
    lives = slow.lives((shape, ()))
    many = lives[(shape, ())]
    if many == 0:
        return []
    ways = slow.ways((shape, ()))
    return [act for act in slow.acts(shape)
            if all(slow.at_least(plus(lives[end], served), many) for end, served in ways[act])]


def slow_hard(shape):
    """The hard keys of a stand at rest, by the letter."""
    lives = slow.lives((shape, ()))
    many = lives[(shape, ())]
    return [key for key in range(shape[0]) if slow.at_least(many, lives[slow.told((shape, ()), key)])]


def some_row(rng, shape, many):
    """A row of up to so many items that can be made, the list of the shapes on the way, and who served."""
    row, way = [], [(shape, 0)]
    for _ in range(many):
        shape, served = way[-1]
        if shape[4] is None:
            item = rng.randrange(shape[0])
            way.append((slow.told((shape, ()), item)[0], served))
        else:
            acts = slow.acts(shape)
            if not acts:
                break
            item = (rng.choice(acts), rng.choice(slow.replies(shape)))
            end, more = slow.after(shape, *item)
            way.append((end, served + more))
        row.append(item)
    return row, way


class GoodActs(unittest.TestCase):

    def test_by_hand(self):
        # The copy takes the only free page; the write serves, and the other block can be erased behind it.
        self.assertEqual(good_acts(SMALL.put(0)), [("write", 1)])
        self.assertEqual(good_acts(Stand(1, [(1, ("old",)), (0, (0,))], 0, 0, asked=0)), [("erase", 0)])
        self.assertEqual(good_acts(Stand(1, [(0, (0, "old"))], 0, 0, asked=0)), [])
        self.assertEqual(good_acts(Stand(1, [(None, (0,)), (0, ("free",))], 1, 0, asked=0)), [])

    def test_for_ever(self):
        stand = Stand(1, [("ever", (0,)), ("ever", ("free",))], 0, 0, asked=0)
        self.assertEqual(good_acts(stand), [("write", 1), ("copy", 0, 1)])
        stand = Stand(2, [("ever", (0, 1)), ("ever", ("free", "free"))], 0, 0, asked=0)
        self.assertEqual(good_acts(stand), slow_good(stand.shape()))
        self.assertIn(("write", 1), good_acts(stand))

    def test_reckoned(self):
        lost = 0
        for lefts in ((0, 1, 2, "ever", None), ("ever",), (0, 1, 2)):
            for shape in slow.some_shapes(101 + len(lefts), 120, 400, lefts=lefts):
                if shape[4] is not None:
                    with self.subTest(shape):
                        found = good_acts(stand_of(shape))
                        self.assertEqual(found, slow_good(shape))
                        lost += 0 < len(found) < len(slow.acts(shape))
        self.assertGreater(lost, 10)

    def test_there_is_one_exactly_above_the_life_0(self):
        for shape in slow.some_shapes(106, 60):
            if shape[4] is not None:
                self.assertEqual(good_acts(stand_of(shape)) == [], life(stand_of(shape)) == 0)

    def test_not_asked_is_ahead_of_a_wrong_bound(self):
        self.assertRaises(NotAsked, good_acts, SMALL)
        self.assertRaises(NotAsked, good_acts, SMALL, most=0)
        for most in WRONG_BOUNDS:
            with self.subTest(most):
                self.assertRaises(NoMost, good_acts, SMALL.put(0), most=most)
        self.assertRaises(TypeError, good_acts, SMALL.put(0), 20000)

    def test_lists_are_new(self):
        asked = SMALL.put(0)
        good_acts(asked).clear()
        self.assertEqual(good_acts(asked), [("write", 1)])


class HardKeys(unittest.TestCase):

    def test_by_hand(self):
        stand = Stand(2, [(1, (0,)), (0, ("free",)), (0, ("old",))], 0, 0)
        self.assertEqual(hard_keys(stand), [1])
        self.assertEqual(hard_keys(SMALL), [0])
        self.assertEqual(hard_keys(fresh(2, 1, 1, 0, 0, 0)), [0, 1])
        self.assertEqual(hard_keys(Stand(3, [(None, (0,))], 0, 0)), [0, 1, 2])

    def test_all_keys_where_it_lasts_for_ever(self):
        self.assertEqual(hard_keys(fresh(3, 3, 2, "ever", 0, 0)), [0, 1, 2])

    def test_reckoned(self):
        for lefts in ((0, 1, 2, "ever", None), ("ever",), (0, 1, 2)):
            for shape in slow.some_shapes(111 + len(lefts), 100, 400, lefts=lefts):
                if shape[4] is None:
                    with self.subTest(shape):
                        self.assertEqual(hard_keys(stand_of(shape)), slow_hard(shape))

    def test_reckoned_where_some_are_not_hard(self):
        rng, some = random.Random(115), 0
        for _ in range(60):
            keys = rng.randint(2, 3)
            pages = list(range(keys)) + ["old"] * (4 - keys)
            rng.shuffle(pages)
            blocks = [(rng.randint(0, 1), (page,)) for page in pages] + [(0, ("free",))]
            shape = (keys, tuple(blocks), 0, 0, None)
            if not slow.is_small((shape, ()), 400):
                continue
            with self.subTest(shape):
                found = hard_keys(stand_of(shape))
                self.assertEqual(found, slow_hard(shape))
                some += len(found) < keys
        self.assertGreater(some, 5)

    def test_not_at_rest_is_ahead_of_a_wrong_bound(self):
        self.assertRaises(NotAtRest, hard_keys, SMALL.put(0))
        self.assertRaises(NotAtRest, hard_keys, SMALL.put(0), most=True)
        for most in WRONG_BOUNDS:
            with self.subTest(most):
                self.assertRaises(NoMost, hard_keys, SMALL, most=most)
        self.assertRaises(TypeError, hard_keys, SMALL, 20000)

    def test_lists_are_new(self):
        hard_keys(SMALL).clear()
        self.assertEqual(hard_keys(SMALL), [0])


class Falls(unittest.TestCase):

    def test_by_hand(self):
        self.assertEqual(falls(SMALL, []), [2])
        self.assertEqual(falls(SMALL, [0, WRITE]), [2, 2, 2])
        self.assertEqual(falls(SMALL, [0, WRITE, 0, (("erase", 0), "done"), (("write", 0), "done"), 0]), [2] * 7)
        self.assertEqual(falls(SMALL, [0, (("copy", 0, 1), "done")]), [2, 2, 1])
        self.assertEqual(falls(SMALL.put(0), [WRITE]), [2, 2])
        self.assertEqual(falls(Stand(1, [(None, (0,))], 0, 0), [0]), [0, 0])
        self.assertEqual(falls(fresh(1, 2, 1, "ever", 0, 0), [0, (("write", 0), "done"), 0]), [None] * 4)

    def test_replies_of_all_kinds(self):
        stand = fresh(1, 2, 2, 0, 1, 2)
        row = [0, (("write", 0), "cut"), 0, (("write", 1), "late"), 0, (("write", 0), "bad"), (("write", 1), "done"), 0]
        self.assertEqual(falls(stand, row), [0] * 4 + [1] * 5)

    def test_reckoned_with_the_facts(self):
        rng = random.Random(121)
        for shape in slow.some_shapes(121, 120, 400):
            row, way = some_row(rng, shape, 8)
            lives = slow.lives((shape, ()))
            told = [plus(lives[(end, ())], served) for end, served in way]
            kept = list(row)
            with self.subTest(shape=shape, row=row):
                self.assertEqual(falls(stand_of(shape), row), told)
                self.assertEqual(row, kept)
                self.assert_facts(row, way, told)

    def assert_facts(self, row, way, told):
        for at, item in enumerate(row):
            shape, before, behind = way[at][0], told[at], told[at + 1]
            if shape[4] is None:
                self.assertTrue(slow.at_least(behind, before))
                self.assertEqual(slow.at_least(before, behind), item in slow_hard(shape))
            elif item[0] in slow_good(shape):
                self.assertTrue(slow.at_least(behind, before))
            elif before is None or before > way[at][1]:
                lives = slow.lives((shape, ()))
                ends = [plus(lives[end], served) for end, served in slow.ways((shape, ()))[item[0]]]
                self.assertTrue(any(not slow.at_least(end, lives[(shape, ())]) for end in ends))

    def assert_no_row(self, index, stand, row):
        kept = repr(row)
        for most in (20000, 0, None):
            with self.assertRaises(NoRow) as caught:
                falls(stand, row, most=most)
            self.assertEqual(caught.exception.index, index)
        self.assertEqual(repr(row), kept)

    def test_what_is_no_list(self):
        for row in NO_ROWS:
            with self.subTest(row):
                self.assert_no_row(-1, SMALL, row)

    def test_items_that_are_no_keys(self):
        for item in ODD_ITEMS:
            with self.subTest(item):
                self.assert_no_row(0, SMALL, [item])
                self.assert_no_row(0, SMALL, [item, 7, None])
                self.assert_no_row(2, SMALL, [0, WRITE, item])

    def test_items_that_are_no_answers(self):
        for item in ODD_ANSWERS:
            with self.subTest(item):
                self.assert_no_row(1, SMALL, [0, item])
                self.assert_no_row(0, SMALL.put(0), [item, item])
                self.assert_no_row(3, Stand(1, [(0, (0,)), (0, ("free", )), (0, ("old",))], 0, 1),
                                   [0, (("write", 1), "late"), 0, item])

    def test_keys_while_a_put_is_asked(self):
        self.assert_no_row(1, FAILING, [0, 0])
        self.assert_no_row(1, FAILING, [1, 0, (("write", 0), "done")])

    def test_replies_that_are_used_up(self):
        self.assert_no_row(2, FAILING, [0, (("write", 0), "bad"), (("write", 1), "bad")])
        self.assert_no_row(3, FAILING, [0, (("write", 0), "cut"), 0, (("write", 1), "late")])

    def test_wrong_bounds(self):
        for most in WRONG_BOUNDS:
            with self.subTest(most):
                self.assertRaises(NoMost, falls, SMALL, [0], most=most)
        self.assertRaises(TypeError, falls, SMALL, [0], 20000)

    def test_lists_are_new(self):
        falls(SMALL, [0]).clear()
        self.assertEqual(falls(SMALL, [0]), [2, 2])


class Bounds(unittest.TestCase):

    def test_too_many_exactly(self):
        rng = random.Random(131)
        for shape in slow.some_shapes(131, 60):
            stand, many = stand_of(shape), slow.count(shape)
            row, _ = some_row(rng, shape, 5)
            calls = [lambda most: falls(stand, row, most=most)]
            calls.append((lambda most: hard_keys(stand, most=most)) if shape[4] is None
                         else (lambda most: good_acts(stand, most=most)))
            for call in calls:
                with self.subTest(shape):
                    self.assertEqual(call(many), call(20000))
                    if many > 1:
                        with self.assertRaises(TooMany) as caught:
                            call(many - 1)
                        self.assertEqual(caught.exception.most, many - 1)

    def test_the_bound_that_counts_without_one(self):
        stand = fresh(1, 3, 1, 8, 1, 1)
        for call in (lambda: falls(stand, [0]), lambda: hard_keys(stand), lambda: good_acts(stand.put(0))):
            with self.assertRaises(TooMany) as caught:
                call()
            self.assertEqual(caught.exception.most, 20000)

    def test_the_stand_stays(self):
        shape = FAILING.shape()
        falls(FAILING, [0])
        hard_keys(FAILING)
        good_acts(FAILING.put(1))
        self.assertEqual(FAILING.shape(), shape)


if __name__ == "__main__":
    unittest.main()
