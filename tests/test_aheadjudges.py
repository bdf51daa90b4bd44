"""[34]: the judges of plans with the next puts known ahead."""

import random
import unittest

from spentblocks.ahead import enemy_ahead, life_ahead, plan_ahead
from spentblocks.aheadjudges import enemy_ahead_fault, plan_ahead_fault
from spentblocks.errors import NoNumber, NoPuts, NotAtRest
from spentblocks.judges import enemy_fault, plan_fault
from spentblocks.lives import enemy_plan, life, plan
from spentblocks.stands import Stand, stand_of
from tests import slow, spoil
from tests.test_ahead import WRONG_ROWS

# With the row [0] the first put serves by the free page, and which one is served is known.
STAND = Stand(2, [(0, ("free", "free"))], 0, 0)
REST = STAND.shape()
ZERO, ONE = STAND.put(0).shape(), STAND.put(1).shape()
OTHER = STAND.put(1).after(("write", 0), "done").shape()
BEHIND = STAND.put(0).after(("write", 0), "done").shape()
WRITE = ("write", 0)
PLAN = {(REST, (0,)): (1, 0, None), (ZERO, (0,)): (1, 0, WRITE), (ZERO, (1,)): (1, 0, WRITE),
        (BEHIND, (0,)): (0, 0, None), (BEHIND, (1,)): (0, 0, None)}

BENT_VIEWS = [
    0, None, True, "view", (), REST, ZERO, (REST,), (REST, (0,), 0), ((0,), REST), (REST, 0), (REST, None),
    (REST, ()), (REST, (0, 0)), (REST, (0, 1, 0)), (REST, (2,)), (REST, (-1,)), (REST, (True,)), (REST, (False,)),
    (REST, ("0",)), (REST, (None,)), (REST, ((0,),)), (REST, "0"), (REST[:4], (0,)), ((True,) + REST[1:], (0,)),
    ((2, REST[1], False, 0, None), (0,)), ((1, REST[1], 0, 0, None), (1,)), (REST[:4] + (True,), (0,)),
]


class StorePlans(unittest.TestCase):

    def assert_fault(self, fault, thing, n=1, stand=STAND, row=(0,)):
        before, known = repr(thing), list(row)
        self.assertEqual(plan_ahead_fault(stand, known, n, thing), fault)
        self.assertEqual(repr(thing), before)
        self.assertEqual(known, list(row))

    def test_right_plans(self):
        self.assert_fault(None, PLAN)
        self.assert_fault(None, {(REST, (0,)): (0, 0, None)}, n=0)
        more = {((3, ((0, ("old",)),), 0, 0, None), (2,)): (0, 0, None)}
        self.assert_fault(None, {**PLAN, **more})

    def test_those_that_are_told(self):
        rng = random.Random(91)
        for window in (0, 1, 2, 3):
            for shape in slow.some_shapes(91 + window, 15, 500, window=max(window, 1)):
                row = [rng.randrange(shape[0]) for _ in range(window)]
                stand = stand_of(shape)
                many = life_ahead(stand, row)
                self.assert_fault(None, plan_ahead(stand, row), many, stand, row)
                if many is not None:
                    self.assert_fault(("first",), plan_ahead(stand, row), many + 1, stand, row)

    def test_errors_in_their_order(self):
        for row in WRONG_ROWS:
            with self.subTest(row):
                self.assertRaises(NoPuts, plan_ahead_fault, STAND, row, True, PLAN)
                self.assertRaises(NotAtRest, plan_ahead_fault, STAND.put(0), row, True, PLAN)
        for n in [-1, True, False, "1", "", (), [], {}, 1.0]:
            with self.subTest(n):
                self.assertRaises(NoNumber, plan_ahead_fault, STAND, [0], n, PLAN)
                self.assertRaises(NoNumber, plan_ahead_fault, STAND, [0], n, None)
        self.assertRaises(NotAtRest, plan_ahead_fault, STAND.put(0), [0], 1, PLAN)
        self.assertEqual(plan_ahead_fault(STAND, [0], None, PLAN), ("first",))

    def test_forms(self):
        entries = [None, 1, (), (0, 0), (0, 0, None, None), [0, 0, None], (-1, 0, None), (True, 0, None),
                   (0, -1, None), (0, True, None), (0, None, None), (0, 0, WRITE), (1, 0, WRITE), (None, 0, 0)]
        for thing in spoil.wrong_forms((REST, (0,)), (0, 0, None), BENT_VIEWS, entries):
            with self.subTest(thing):
                self.assert_fault(("form",), thing, n=0)
        self.assert_fault(("form",), {**PLAN, (ZERO, (0,)): (0, 0, WRITE)})

    def test_form_is_ahead_of_first_and_first_ahead_of_the_others(self):
        self.assert_fault(("form",), {(REST, ()): (1, 0, None)})
        self.assert_fault(("form",), PLAN, row=())
        self.assert_fault(("form",), PLAN, row=(0, 0))
        self.assert_fault(("first",), PLAN, row=(1,))
        self.assert_fault(("first",), PLAN, n=2)
        self.assert_fault(("first",), {(ZERO, (0,)): (1, 0, None)})

    def test_the_first_known_key_is_asked_and_the_told_one_kept(self):
        for told in (0, 1):
            lacking = {view: entry for view, entry in PLAN.items() if view != (ZERO, (told,))}
            self.assert_fault(("key", (REST, (0,)), told), lacking)
            self.assert_fault(("key", (REST, (0,)), told), {**PLAN, (ZERO, (told,)): (0, 0, None)})
        thing = {(REST, (0,)): (1, 0, None), (ONE, (0,)): (1, 0, WRITE), (OTHER, (0,)): (0, 0, None)}
        self.assert_fault(("key", (REST, (0,)), 0), thing)

    def test_acts(self):
        for act in spoil.JUNK_ACTS + [("erase", 0), ("copy", 0, 0), ("write", 1)]:
            with self.subTest(act):
                if act != WRITE:
                    self.assert_fault(("act", (ZERO, (1,))), {**PLAN, (ZERO, (1,)): (1, 0, act)})

    def test_the_row_stays_behind_acts(self):
        for row in ((0,), (1,)):
            lacking = {view: entry for view, entry in PLAN.items() if view != (BEHIND, row)}
            self.assert_fault(("reply", (ZERO, row), "done"), lacking)

    def test_the_least_view_by_its_string(self):
        views = [((1, ((left, ("old",)),), 0, 0, 0), (0,)) for left in (9, 10, 2, 99)]
        for most in range(1, 5):
            thing = {**{view: (1, 0, None) for view in views[:most]}, **PLAN}
            self.assert_fault(("act", min(views[:most], key=str)), thing)

    def test_with_no_known_puts_it_is_plan_fault(self):
        rng = random.Random(95)
        for shape in slow.some_shapes(95, 30, window=1):
            stand = stand_of(shape)
            many = life(stand)
            thing = spoil.spoilt_plan(rng, plan(stand), lambda spot: spot)
            fault = plan_fault(stand, many, thing)
            if fault is not None and len(fault) > 1:
                fault = (fault[0], (fault[1], ())) + fault[2:]
            self.assert_fault(fault, {(spot, ()): entry for spot, entry in thing.items()}, many, stand, ())

    def test_spoilt_plans_are_judged_as_the_slow_judge_does(self):
        rng = random.Random(96)
        faults = {}
        for window in (1, 2, 3):
            for shape in slow.some_shapes(96 + window, 15, 400, window=window):
                row = [rng.randrange(shape[0]) for _ in range(window)]
                stand = stand_of(shape)
                many, right = life_ahead(stand, row), plan_ahead(stand, row)
                for _ in range(20):
                    thing = spoil.spoilt_plan(rng, right, lambda spot: spot[0])
                    n = rng.choice([many, many, 0, 1])
                    fault = slow.plan_fault((shape, tuple(row)), n, thing)
                    self.assert_fault(fault, thing, n, stand, row)
                    faults[fault and fault[0]] = True
        self.assertEqual(set(faults), {None, "first", "key", "act", "reply"})


class EnemyPlans(unittest.TestCase):

    def setUp(self):
        self.plan = enemy_ahead(STAND, [0])

    def assert_fault(self, fault, thing, n=2, stand=STAND, row=(0,)):
        before, known = repr(thing), list(row)
        self.assertEqual(enemy_ahead_fault(stand, known, n, thing), fault)
        self.assertEqual(repr(thing), before)
        self.assertEqual(known, list(row))

    def test_right_plans(self):
        self.assert_fault(None, self.plan)
        self.assert_fault(None, self.plan, n=3)

    def test_those_that_are_told(self):
        rng = random.Random(101)
        for window in (0, 1, 2, 3):
            for shape in slow.some_shapes(101 + window, 15, 500, window=max(window, 1)):
                row = [rng.randrange(shape[0]) for _ in range(window)]
                stand = stand_of(shape)
                many = life_ahead(stand, row)
                if many is not None:
                    self.assert_fault(None, enemy_ahead(stand, row), many, stand, row)
                if many:
                    self.assert_fault(("first",), enemy_ahead(stand, row), many - 1, stand, row)

    def test_errors_in_their_order(self):
        for row in WRONG_ROWS:
            with self.subTest(row):
                self.assertRaises(NoPuts, enemy_ahead_fault, STAND, row, None, self.plan)
                self.assertRaises(NotAtRest, enemy_ahead_fault, STAND.put(0), row, None, self.plan)
        for n in [-1, True, False, None, "1", "", (), [], {}, 1.0]:
            with self.subTest(n):
                self.assertRaises(NoNumber, enemy_ahead_fault, STAND, [0], n, self.plan)
                self.assertRaises(NoNumber, enemy_ahead_fault, STAND, [0], n, None)
        self.assertRaises(NotAtRest, enemy_ahead_fault, STAND.put(0), [0], 1, self.plan)

    def test_forms(self):
        entries = [None, 1, (), (0,), (0, 0, 0), [0, 0], (-1, 0), (True, 0), (None, 0), ("0", 0)]
        for thing in spoil.wrong_forms((REST, (0,)), (2, 0), BENT_VIEWS, entries):
            with self.subTest(thing):
                self.assert_fault(("form",), thing)

    def test_form_is_ahead_of_first_and_first_ahead_of_the_others(self):
        self.assert_fault(("form",), {(REST, ()): (0, 0)})
        self.assert_fault(("form",), self.plan, row=())
        self.assert_fault(("form",), self.plan, row=(0, 0))
        self.assert_fault(("first",), self.plan, row=(1,))
        self.assert_fault(("first",), self.plan, n=1)
        self.assert_fault(("first",), {(ZERO, (0,)): (0, None)})

    def test_the_choice_at_rest_is_the_key_that_is_told(self):
        first = (REST, (0,))
        for key in [None, True, False, -1, 2, "0", (0,), [0], {}]:
            self.assert_fault(("key", first), {first: (2, key)})
        told = self.plan[first][1]
        other = {**self.plan, first: (2, 1 - told)}
        self.assert_fault(("key", first), other)
        self.assert_fault(("reply", (ZERO, (1,)), WRITE), {first: (2, 1), (ZERO, (1,)): (2, {WRITE: "done"})})
        self.assert_fault(("key", first), {first: (2, 1), (ONE, (0,)): (2, {WRITE: "done"}), (OTHER, (0,)): (1, 0)})

    def test_acts(self):
        view = (ZERO, (self.plan[(REST, (0,))][1],))
        for choice in [None, 0, [], {}, {("write", False): "done"}, {WRITE: "done", 0: 0}, {("write", 1): "done"}]:
            self.assert_fault(("acts", view), {**self.plan, view: (2, choice)})

    def test_replies(self):
        told = self.plan[(REST, (0,))][1]
        view = (ZERO, (told,))
        for reply in ["bad", "cut", "late"] + spoil.JUNK_REPLIES:
            self.assert_fault(("reply", view, WRITE), {**self.plan, view: (2, {WRITE: reply})})
        behind = (BEHIND, (told,))
        self.assert_fault(("reply", view, WRITE), {**self.plan, behind: (2, self.plan[behind][1])})
        moved = {(spot if spot != behind else (BEHIND, (1 - told,))): entry for spot, entry in self.plan.items()}
        self.assertEqual(enemy_ahead_fault(STAND, [0], 2, moved)[0], "reply")

    def test_with_no_known_puts_it_is_enemy_fault(self):
        rng = random.Random(105)
        for shape in slow.some_shapes(105, 40, window=1):
            stand = stand_of(shape)
            many = life(stand)
            if many is None:
                continue
            thing = spoil.spoilt_enemy_plan(rng, enemy_plan(stand), lambda spot: spot)
            fault = enemy_fault(stand, many, thing)
            if fault is not None and len(fault) > 1:
                fault = (fault[0], (fault[1], ())) + fault[2:]
            self.assert_fault(fault, {(spot, ()): entry for spot, entry in thing.items()}, many, stand, ())

    def test_spoilt_plans_are_judged_as_the_slow_judge_does(self):
        rng = random.Random(106)
        faults = {}
        for window in (1, 2, 3):
            for shape in slow.some_shapes(106 + window, 20, 400, window=window):
                row = [rng.randrange(shape[0]) for _ in range(window)]
                stand = stand_of(shape)
                many, right = life_ahead(stand, row), enemy_ahead(stand, row)
                for _ in range(20 if right is not None else 0):
                    thing = spoil.spoilt_enemy_plan(rng, right, lambda spot: spot[0])
                    n = rng.choice([many, many, many + 1, 0])
                    fault = slow.enemy_fault((shape, tuple(row)), n, thing)
                    self.assert_fault(fault, thing, n, stand, row)
                    faults[fault and fault[0]] = True
        self.assertEqual(set(faults), {None, "first", "key", "acts", "reply"})


if __name__ == "__main__":
    unittest.main()
