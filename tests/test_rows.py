"""[21]: the least erases for told puts, and the judge of rows of acts."""

import itertools
import random
import unittest

from spentblocks.ahead import life_ahead
from spentblocks.errors import NoMost, NoPuts, NotAtRest, NotCalm, TooMany
from spentblocks.rows import acts_fault, least_erases
from spentblocks.stands import Stand, fresh, stand_of
from spentblocks.tables import erase_table, table_fault
from tests import slow, slowmore

SMALL = Stand(1, [(1, (0,)), (0, ("free",))], 0, 0)
PAIR = Stand(2, [(1, (0, "old")), (1, ("old", 1)), (0, ("free", "free"))], 0, 0)
WRONG_BOUNDS = [0, -1, 100001, 10 ** 29, True, False, None, "20000", "", (), [5]]
WRONG_PUTS = [None, True, 0, "", "0", (), (0,), {}, {0: 0}, [1], [0, 1], [-1], [True], [0, False], ["0"], [None], [(0,)],
              [[0]], [0] * 21, SMALL, [SMALL]]


def calm_shapes(seed, many, most_views=260, **more):
    """Small shapes at rest without fails and cuts."""
    found = []
    for shape in slow.some_shapes(seed, many * 3, most_views, **more):
        shape = shape[:2] + (0, 0, None)
        if shape not in found and slow.is_small((shape, ()), most_views):
            found.append(shape)
    return found[:many]


def some_puts(rng, keys, most=6):
    return [rng.randrange(keys) for _ in range(rng.randint(0, most))]


def all_functions(stand, puts, **more):
    """Calls of all functions of [21] and [22] with a stand and puts; those with a bound get it."""
    calls = [lambda: least_erases(stand, puts, **more), lambda: erase_table(stand, puts, **more)]
    if not more:
        calls += [lambda: acts_fault(stand, puts, None), lambda: table_fault(stand, puts, None, None)]
    return calls


class LeastErases(unittest.TestCase):

    def test_by_hand(self):
        self.assertEqual(least_erases(SMALL, [0]), (0, [("write", 1)]))
        self.assertEqual(least_erases(SMALL, [0, 0]), (1, [("write", 1), ("erase", 0), ("write", 0)]))
        self.assertIsNone(least_erases(SMALL, [0, 0, 0]))
        self.assertIsNone(least_erases(Stand(1, [(None, (0,))], 0, 0), [0]))
        number, acts = least_erases(PAIR, [0, 1, 0, 1])
        self.assertEqual(number, 1)
        self.assertEqual([act[0] for act in acts].count("erase"), 1)

    def test_no_puts(self):
        for stand in (SMALL, PAIR, Stand(1, [(None, (0,))], 0, 0), fresh(9, 9, 6, 99, 0, 0)):
            self.assertEqual(least_erases(stand, []), (0, []))
            self.assertEqual(least_erases(stand, [], most=1), (0, []))

    def test_copies_may_be_worth_it(self):
        # Only when the key 0 is copied out of block 0 this one can be erased; its own put comes last.
        stand = Stand(2, [(1, (0, "old", "old")), (0, ("old", "free", "free"))], 0, 0)
        number, acts = least_erases(stand, [1, 1, 1, 1])
        self.assertEqual(number, slowmore.least_erases(stand.shape(), [1, 1, 1, 1]))
        self.assertIn("copy", [act[0] for act in acts])

    def check(self, shape, puts):
        number = slowmore.least_erases(shape, puts)
        kept = list(puts)
        found = least_erases(stand_of(shape), puts)
        self.assertEqual(puts, kept)
        if number is None:
            self.assertIsNone(found)
            return
        self.assertIs(type(found), tuple)
        self.assertEqual(found[0], number)
        self.assertIs(type(found[1]), list)
        self.assertEqual([act[0] for act in found[1]].count("erase"), number)
        self.assertIsNone(slowmore.acts_fault(shape, puts, found[1]))
        self.assertIsNone(acts_fault(stand_of(shape), puts, found[1]))

    def test_reckoned(self):
        rng = random.Random(221)
        for lefts in ((0, 1, 2, "ever", None), ("ever",), (0, 1, 2)):
            for shape in calm_shapes(221 + len(lefts), 70, 400, lefts=lefts):
                for _ in range(3):
                    puts = some_puts(rng, shape[0])
                    with self.subTest(shape=shape, puts=puts):
                        self.check(shape, puts)

    def test_twenty_puts(self):
        rng = random.Random(222)
        for stand in (fresh(1, 2, 1, "ever", 0, 0), fresh(2, 3, 1, "ever", 0, 0), fresh(2, 2, 2, "ever", 0, 0),
                      fresh(1, 2, 2, 4, 0, 0), fresh(2, 4, 1, "ever", 0, 0), fresh(1, 2, 1, 9, 0, 0)):
            puts = [rng.randrange(stand.many()) for _ in range(20)]
            with self.subTest(stand.shape()):
                self.check(stand.shape(), puts)
        self.assertEqual(least_erases(fresh(1, 2, 1, 9, 0, 0), [0] * 20)[0], 18)

    def test_too_many_by_the_number_of_pairs(self):
        rng = random.Random(223)
        for shape in calm_shapes(223, 60):
            puts = some_puts(rng, shape[0])
            stand, many = stand_of(shape), len(slowmore.told_pairs(shape, puts))
            for function in (least_erases, erase_table):
                with self.subTest(shape=shape, puts=puts):
                    self.assertEqual(function(stand, puts, most=many), function(stand, puts))
                    if many > 1:
                        with self.assertRaises(TooMany) as caught:
                            function(stand, puts, most=many - 1)
                        self.assertEqual(caught.exception.most, many - 1)

    def test_the_last_pairs_count(self):
        # (0, at rest), (0, asked), behind the copy (0, asked), behind its erase (0, asked), ... and (1, at rest).
        stand = Stand(1, [(0, ("free",))], 0, 0)
        self.assertEqual(least_erases(stand, [0], most=3), (0, [("write", 0)]))
        self.assertRaises(TooMany, least_erases, stand, [0], most=2)
        self.assertRaises(TooMany, erase_table, stand, [0], most=2)

    def test_the_bound_that_counts_without_one(self):
        for function in (least_erases, erase_table):
            with self.assertRaises(TooMany) as caught:
                function(fresh(3, 3, 3, 9, 0, 0), [0, 1, 2] * 6)
            self.assertEqual(caught.exception.most, 20000)

    def test_lists_are_new(self):
        least_erases(SMALL, [0, 0])[1].clear()
        self.assertEqual(least_erases(SMALL, [0, 0]), (1, [("write", 1), ("erase", 0), ("write", 0)]))

    def test_which_rows_of_puts_are_lasted_with_keys_ahead(self):
        # The fact of [34]: w + 1 puts with each row of w keys exactly if each list of w + 1 puts can be served.
        for shape in calm_shapes(224, 40, 200):
            stand, keys = stand_of(shape), range(shape[0])
            for window in (0, 1, 2):
                lasts = all(slow.at_least(life_ahead(stand, list(row)), window + 1)
                            for row in itertools.product(keys, repeat=window))
                serves = all(least_erases(stand, list(puts)) is not None
                             for puts in itertools.product(keys, repeat=window + 1))
                self.assertIs(lasts, serves)


class ActsFault(unittest.TestCase):

    def assert_fault(self, fault, stand, puts, thing):
        kept = repr((puts, thing))
        self.assertEqual(acts_fault(stand, puts, thing), fault)
        self.assertEqual(repr((puts, thing)), kept)

    def test_by_hand(self):
        right = [("write", 1), ("erase", 0), ("write", 0)]
        self.assert_fault(None, SMALL, [0, 0], right)
        self.assert_fault(None, SMALL, [], [])
        self.assert_fault(("short", 0), SMALL, [0, 0], [])
        self.assert_fault(("short", 1), SMALL, [0, 0], right[:1])
        self.assert_fault(("short", 1), SMALL, [0, 0], right[:2])
        self.assert_fault(("short", 2), SMALL, [0, 0, 0], right)
        self.assert_fault(("short", 0), SMALL, [0], [("copy", 0, 1)])

    def test_an_act_behind_the_last_put(self):
        for act in [("erase", 0), ("write", 1), ("copy", 0, 1), None, 0]:
            self.assert_fault(("act", 1), SMALL, [0], [("write", 1), act])
            self.assert_fault(("act", 0), SMALL, [], [act])

    def test_forms(self):
        for thing in [None, True, 0, "", (), (("write", 1),), {}, {0: ("write", 1)}, SMALL]:
            with self.subTest(thing):
                self.assert_fault(("form",), SMALL, [0], thing)
                self.assert_fault(("form",), SMALL, [], thing)

    def test_items_that_are_no_acts(self):
        for item in [None, True, 0, "write", (), [], {}, ["write", 1], ("write", True), ("write", 0), ("write", 2),
                     ("write", "1"), ("write",), ("write", 1, 0), ("copy", False, 1), ("copy", 0, True), ("copy", 0, 0),
                     ("copy", 1, 1), ("erase", 0), ("erase", 1), ("ask", 0), (("write", 1), "done"), SMALL]:
            with self.subTest(item):
                self.assert_fault(("act", 0), SMALL, [0, 0], [item, 5])
                if item != ("erase", 0):
                    self.assert_fault(("act", 1), SMALL, [0, 0, 0], [("write", 1), item])

    def test_reckoned(self):
        rng = random.Random(231)
        faults = {}
        for shape in calm_shapes(231, 120, 400):
            puts = some_puts(rng, shape[0], 4)
            found = least_erases(stand_of(shape), puts)
            for _ in range(6):
                thing = self.spoilt(rng, found[1] if found else [("write", 0), ("erase", 0)])
                with self.subTest(shape=shape, puts=puts, thing=thing):
                    fault = slowmore.acts_fault(shape, puts, thing)
                    self.assert_fault(fault, stand_of(shape), puts, thing)
                faults.setdefault(fault and fault[0], True)
        self.assertEqual(set(faults), {None, "act", "short"})

    def spoilt(self, rng, acts):
        acts, odd = list(acts), [("write", 0), ("write", 1), ("erase", 0), ("erase", 1), ("copy", 0, 1), None]
        way = rng.choice(["not", "cut off", "longer", "other", "drop", "more"])
        at = rng.randrange(len(acts)) if acts else 0
        if way == "cut off":
            del acts[at:]
        elif way == "longer":
            acts.append(rng.choice(odd))
        elif way == "other" and acts:
            acts[at] = rng.choice(odd)
        elif way == "drop" and acts:
            del acts[at]
        elif way == "more":
            acts.insert(at, rng.choice(odd))
        return acts


class Errors(unittest.TestCase):

    def test_their_order(self):
        loud = fresh(1, 2, 1, 0, 1, 0)
        for puts in [[0], []] + WRONG_PUTS:
            for stand in (SMALL.put(0), loud.put(0)):
                for call in all_functions(stand, puts) + all_functions(stand, puts, most=0):
                    self.assertRaises(NotAtRest, call)
            for stand in (loud, fresh(1, 2, 1, 0, 0, 1), fresh(1, 2, 1, 0, 9, 9)):
                for call in all_functions(stand, puts) + all_functions(stand, puts, most=0):
                    self.assertRaises(NotCalm, call)

    def test_puts(self):
        for puts in WRONG_PUTS:
            with self.subTest(puts):
                for call in all_functions(SMALL, puts) + all_functions(SMALL, puts, most=0):
                    self.assertRaises(NoPuts, call)

    def test_twenty_puts_are_let(self):
        self.assertIsNone(least_erases(SMALL, [0] * 20))
        self.assertEqual(acts_fault(SMALL, [0] * 20, []), ("short", 0))
        self.assertEqual(table_fault(SMALL, [0] * 20, 0, {}), ("first",))
        self.assertEqual(erase_table(SMALL, [0] * 20)[(0, SMALL.put(0).shape())], 99)

    def test_bounds(self):
        for most in WRONG_BOUNDS:
            with self.subTest(most):
                for puts in ([], [0], [0, 0]):
                    for call in all_functions(SMALL, puts, most=most):
                        self.assertRaises(NoMost, call)
        self.assertRaises(TypeError, least_erases, SMALL, [0], 20000)
        self.assertRaises(TypeError, erase_table, SMALL, [0], 20000)


if __name__ == "__main__":
    unittest.main()
