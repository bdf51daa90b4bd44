"""[11], [12]: the judges of plans."""

import random
import unittest

from spentblocks.errors import NoNumber
from spentblocks.judges import enemy_fault, plan_fault
from spentblocks.lives import enemy_plan, life, plan
from spentblocks.stands import Stand, fresh, stand_of
from tests import slow, spoil

SMALL = Stand(1, [(1, (0,)), (0, ("free",))], 0, 0)
REST = SMALL.shape()
ASKED = SMALL.put(0).shape()
BEHIND = (1, ((1, ("old",)), (0, (0,))), 0, 0, None)
PLAN = {REST: (1, 0, None), ASKED: (1, 0, ("write", 1)), BEHIND: (0, 0, None)}

# A stand that goes on for ever: the old block is erased, then written to, and so on the other way round.
ROUND = Stand(1, [("ever", (0,)), ("ever", ("old",))], 0, 0)


def ever(one, other, asked):
    return (1, (("ever", (one,)), ("ever", (other,))), 0, 0, asked)


ROUND_PLAN = {
    ever(0, "old", None): (None, 0, None), ever(0, "old", 0): (None, 1, ("erase", 1)),
    ever(0, "free", 0): (None, 0, ("write", 1)),
    ever("old", 0, None): (None, 0, None), ever("old", 0, 0): (None, 1, ("erase", 0)),
    ever("free", 0, 0): (None, 0, ("write", 0)),
}

BENT_SHAPES = [
    0, None, True, "shape", (), REST[:4], REST + (0,), (True,) + REST[1:], (0,) + REST[1:], (10,) + REST[1:],
    (1, ((True, (0,)), (0, ("free",))), 0, 0, None), (1, ((1, (False,)), (0, ("free",))), 0, 0, None),
    (1, ((1, (0,)), (0, (0,))), 0, 0, None), (1, ((1, ("free", 0)), (0, ("free", "free"))), 0, 0, None),
    (1, ((100, (0,)),), 0, 0, None), (1, (), 0, 0, None), (1, REST[1], False, 0, None), (1, REST[1], 10, 0, None),
    (1, REST[1], 0, True, None), (1, REST[1], 0, 0, False), (1, REST[1], 0, 0, 1), (REST, ()), (REST,),
]


def changed(thing, **more):
    """The plan with other entries by name, or without those that are told as None."""
    spots = {"rest": REST, "asked": ASKED, "behind": BEHIND}
    found = dict(thing)
    for name, entry in more.items():
        if entry is None:
            del found[spots[name]]
        else:
            found[spots[name]] = entry
    return found


def as_views(thing):
    return {(shape, ()): entry for shape, entry in thing.items()}


def of_shapes(fault):
    """A fault over views, told over shapes."""
    return fault if fault is None or len(fault) == 1 else (fault[0], fault[1][0]) + fault[2:]


class StorePlans(unittest.TestCase):

    def assert_fault(self, fault, thing, n=1, stand=SMALL):
        before = repr(thing)
        self.assertEqual(plan_fault(stand, n, thing), fault)
        self.assertEqual(repr(thing), before)

    def test_right_plans(self):
        self.assert_fault(None, PLAN)
        self.assert_fault(None, PLAN, n=0)
        self.assert_fault(None, {REST: (0, 0, None)}, n=0)
        self.assert_fault(None, {REST: (0, 5, None)}, n=0)
        for n in (0, 1, 10 ** 29, None):
            self.assert_fault(None, ROUND_PLAN, n=n, stand=ROUND)

    def test_those_that_are_told(self):
        for shape in slow.some_shapes(31, 60):
            stand = stand_of(shape)
            self.assert_fault(None, plan(stand), life(stand), stand)

    def test_numbers(self):
        for n in [-1, True, False, "1", "", (), [], {}, 1.0, -10 ** 29]:
            with self.subTest(n):
                self.assertRaises(NoNumber, plan_fault, SMALL, n, PLAN)
                self.assertRaises(NoNumber, plan_fault, SMALL, n, None)

    def test_forms(self):
        entries = [None, 1, (), (0, 0), (0, 0, None, None), [0, 0, None], (-1, 0, None), (True, 0, None),
                   (False, 0, None), ("0", 0, None), (0, -1, None), (0, True, None), (0, False, None),
                   (0, None, None), (0, "0", None), ((0,), 0, None), {0: 0}]
        for thing in spoil.wrong_forms(REST, (0, 0, None), BENT_SHAPES, entries):
            with self.subTest(thing):
                self.assert_fault(("form",), thing, n=0)

    def test_acts_where_none_may_be(self):
        for act in [("write", 1), (), 0, "write", False, []]:
            self.assert_fault(("form",), changed(PLAN, rest=(1, 0, act)))
            self.assert_fault(("form",), changed(PLAN, asked=(0, 0, act)))
            self.assert_fault(("form",), changed(PLAN, behind=(0, 0, act)))
            self.assert_fault(("form",), {ever(0, "old", None): (None, 0, act)}, None, ROUND)

    def test_form_is_ahead_of_first_and_first_ahead_of_the_others(self):
        self.assert_fault(("form",), {REST: (0, 0, None), 5: (0, 0, None)})
        self.assert_fault(("form",), {BEHIND: (1, 0, 5)})
        self.assert_fault(("first",), {})
        self.assert_fault(("first",), {}, n=0)
        self.assert_fault(("first",), changed(PLAN, rest=None), n=0)
        self.assert_fault(("first",), PLAN, n=2)
        self.assert_fault(("first",), PLAN, n=None)
        self.assert_fault(("first",), {REST: (0, 0, None), ASKED: (1, 0, None)})
        self.assert_fault(("first",), {BEHIND: (1, 0, None)})

    def test_keys(self):
        self.assert_fault(("key", REST, 0), changed(PLAN, asked=None))
        self.assert_fault(("key", REST, 0), changed(PLAN, asked=(0, 0, None)))
        self.assert_fault(None, changed(PLAN, asked=(1, 0, ("write", 1)), rest=(1, 9, None)))
        stand = Stand(2, [(0, ("free", "free"))], 0, 0)
        rest, one, other = stand.shape(), stand.put(0).shape(), stand.put(1).shape()
        behind = {stand.put(key).after(("write", 0), "done").shape(): (0, 0, None) for key in (0, 1)}
        act = ("write", 0)
        right = {rest: (1, 0, None), one: (1, 0, act), other: (1, 0, act), **behind}
        self.assert_fault(None, right, stand=stand)
        self.assert_fault(("key", rest, 0), {**right, one: (0, 0, None), other: (0, 0, None)}, stand=stand)
        self.assert_fault(("key", rest, 1), {**right, other: (0, 0, None)}, stand=stand)
        del right[other]
        self.assert_fault(("key", rest, 1), right, stand=stand)

    def test_a_promise_of_ever_needs_one_of_ever(self):
        for lacking in (1, 10 ** 29):
            thing = {**ROUND_PLAN, ever(0, "old", 0): (lacking, 1, ("erase", 1))}
            self.assert_fault(("key", ever(0, "old", None), 0), thing, None, ROUND)
            thing = {**ROUND_PLAN, ever(0, "free", 0): (lacking, 0, ("write", 1))}
            self.assert_fault(("reply", ever(0, "old", 0), "done"), thing, None, ROUND)
            thing = {**ROUND_PLAN, ever("old", 0, None): (lacking, 0, None)}
            self.assert_fault(("reply", ever(0, "free", 0), "done"), thing, None, ROUND)

    def test_acts(self):
        for act in spoil.JUNK_ACTS + [("erase", 0), ("copy", 0, 0), ("write", 0), ("write", 1, 1), SMALL, {0: 1}]:
            with self.subTest(act):
                self.assert_fault(("act", ASKED), changed(PLAN, asked=(1, 0, act)))

    def test_replies(self):
        self.assert_fault(("reply", ASKED, "done"), changed(PLAN, behind=None))
        self.assert_fault(("reply", ASKED, "done"), changed(PLAN, rest=(2, 0, None), asked=(2, 0, ("write", 1))), n=2)
        self.assert_fault(("reply", ASKED, "done"), changed(PLAN, asked=(1, 0, ("copy", 0, 1))))

    def test_the_first_let_reply_counts(self):
        stand = fresh(1, 2, 1, 0, 1, 1).put(0)
        act = ("write", 0)
        behind = {reply: stand.after(act, reply).shape() for reply in slow.ORDER}
        right = {stand.shape(): (1, 0, act), behind["done"]: (0, 0, None)}
        self.assert_fault(("reply", stand.shape(), "bad"), right, stand=stand)
        right[behind["bad"]] = (1, 0, ("write", 1))
        fault = plan_fault(stand, 1, right)
        self.assertIn(fault, [("reply", stand.shape(), "cut"), ("reply", behind["bad"], "done")])
        for reply in ("bad", "cut", "late"):
            thing = {stand.shape(): (1, 0, act), **{shape: (1, 0, None) for shape in behind.values()}}
            thing[behind["done"]] = (0, 0, None)
            self.assertNotEqual(plan_fault(stand, 1, thing), ("reply", stand.shape(), reply))
            thing[behind[reply]] = (0, 0, None)
            thing = {shape: entry for shape, entry in thing.items() if str(shape) >= str(stand.shape()) or entry[0] == 0}
            self.assertEqual(slow.plan_fault((stand.shape(), ()), 1, as_views(thing))[0], "reply")
            self.assert_fault(of_shapes(slow.plan_fault((stand.shape(), ()), 1, as_views(thing))), thing, stand=stand)

    def test_ranks_fall_behind_done_acts_that_do_not_serve(self):
        asked, free = ever(0, "old", 0), ever(0, "free", 0)
        for rank in (1, 2, 10 ** 29):
            thing = {**ROUND_PLAN, free: (None, rank, ("write", 1))}
            self.assert_fault(("reply", asked, "done"), thing, None, ROUND)
        self.assert_fault(None, {**ROUND_PLAN, asked: (None, 3, ("erase", 1)), free: (None, 2, ("write", 1))}, None, ROUND)

    def test_no_rank_falls_to_a_greater_promise(self):
        half = {ever(0, "old", None): (3, 0, None), ever(0, "old", 0): (3, 0, ("erase", 1)),
                ever("old", 0, None): (3, 0, None), ever("old", 0, 0): (3, 1, ("erase", 0)),
                ever("free", 0, 0): (3, 0, ("write", 0))}
        self.assert_fault(None, {**half, ever(0, "free", 0): (4, 7, ("write", 1))}, 3, ROUND)
        thing = {**half, ever(0, "free", 0): (3, 0, ("write", 1))}
        self.assert_fault(("reply", ever(0, "old", 0), "done"), thing, 3, ROUND)

    def test_no_rank_falls_to_a_promise_of_ever(self):
        row = [("ever", (0,)), ("ever", ("old",)), (1, ("old",))]
        stand = Stand(1, row, 0, 0, asked=0)
        behind = stand.after(("erase", 2), "done")
        thing = {shape: (promise, rank + 9, act) for shape, (promise, rank, act) in plan(behind).items()}
        self.assert_fault(None, {**thing, stand.shape(): (3, 0, ("erase", 2))}, 3, stand)
        thing[stand.shape()] = (None, 0, ("erase", 2))
        self.assert_fault(("reply", stand.shape(), "done"), thing, 3, stand)

    def test_no_rank_falls_behind_served_puts_and_other_replies(self):
        thing = {shape: (promise, rank if act and act[0] == "erase" else 0, act)
                 for shape, (promise, rank, act) in ROUND_PLAN.items()}
        for shape in (ever(0, "old", None), ever("old", 0, None)):
            thing[shape] = (None, 99, None)
        self.assert_fault(None, thing, None, ROUND)
        stand = fresh(1, 3, 1, "ever", 1, 0)
        raised = {}
        for shape, (promise, rank, act) in plan(stand).items():
            raised[shape] = (promise, rank + 50 if shape[2] == 0 else rank, act)
        self.assert_fault(None, raised, None, stand)

    def test_a_promise_of_0_asks_nothing_more(self):
        alone = {(1, ((0, (0,)),), 2, 2, None): (0, 0, None), (1, ((0, ("free",)),), 2, 2, 0): (0, 3, None)}
        self.assert_fault(None, {**PLAN, **alone})

    def test_the_least_shape_by_its_string(self):
        shapes = [(1, ((left, ("old",)),), 0, 0, 0) for left in (9, 10, 2, 99)]
        for most in range(1, 5):
            thing = {**{shape: (1, 0, None) for shape in shapes[:most]}, **PLAN}
            least = min(shapes[:most], key=str)
            self.assert_fault(("act", least), thing)
        self.assert_fault(("act", shapes[1]), {**PLAN, shapes[0]: (1, 0, None), shapes[1]: (1, 0, None)})

    def test_spoilt_plans_are_judged_as_the_slow_judge_does(self):
        rng = random.Random(32)
        faults = {}
        for shape in slow.some_shapes(32, 90):
            stand = stand_of(shape)
            many = life(stand)
            right = plan(stand)
            for _ in range(30):
                thing = spoil.spoilt_plan(rng, right, lambda spot: spot)
                n = rng.choice([many, many, 0, 1])
                fault = of_shapes(slow.plan_fault((shape, ()), n, as_views(thing)))
                with self.subTest(shape=shape, thing=thing):
                    self.assert_fault(fault, thing, n, stand)
                faults[fault and fault[0]] = True
        self.assertEqual(set(faults), {None, "first", "key", "act", "reply"})


class EnemyPlans(unittest.TestCase):

    def setUp(self):
        self.plan = enemy_plan(SMALL)

    def assert_fault(self, fault, thing, n=2, stand=SMALL):
        before = repr(thing)
        self.assertEqual(enemy_fault(stand, n, thing), fault)
        self.assertEqual(repr(thing), before)

    def test_right_plans(self):
        self.assert_fault(None, self.plan)
        self.assert_fault(None, self.plan, n=3)
        stuck = Stand(1, [(0, (0,))], 0, 0)
        right = {stuck.shape(): (0, 0), stuck.put(0).shape(): (0, {})}
        self.assert_fault(None, right, 0, stuck)
        self.assert_fault(None, {stuck.put(0).shape(): (5, {})}, 9, stuck.put(0))

    def test_those_that_are_told(self):
        for shape in slow.some_shapes(33, 60):
            stand = stand_of(shape)
            if life(stand) is not None:
                self.assert_fault(None, enemy_plan(stand), life(stand), stand)

    def test_numbers(self):
        for n in [-1, True, False, None, "1", "", (), [], {}, 1.0, -10 ** 29]:
            with self.subTest(n):
                self.assertRaises(NoNumber, enemy_fault, SMALL, n, self.plan)
                self.assertRaises(NoNumber, enemy_fault, SMALL, n, None)

    def test_forms(self):
        entries = [None, 1, (), (0,), (0, 0, 0), [0, 0], (-1, 0), (True, 0), (False, 0), (None, 0), ("0", 0), {0: 0}]
        for thing in spoil.wrong_forms(REST, (2, 0), BENT_SHAPES, entries):
            with self.subTest(thing):
                self.assert_fault(("form",), thing)

    def test_form_is_ahead_of_first_and_first_ahead_of_the_others(self):
        self.assert_fault(("form",), {BEHIND: (0, 0), 5: (0, 0)})
        self.assert_fault(("form",), {REST: (True, 0)}, n=0)
        self.assert_fault(("first",), {})
        self.assert_fault(("first",), self.plan, n=1)
        self.assert_fault(("first",), {BEHIND: (0, None), ASKED: (0, None)})
        self.assert_fault(("first",), {REST: (3, None)})

    def test_keys(self):
        for key in [None, True, False, -1, 1, "0", (0,), [0], {}, 10 ** 29, SMALL]:
            with self.subTest(key):
                self.assert_fault(("key", REST), {REST: (2, key)})
        self.assert_fault(("key", REST), {REST: (2, 0)})
        self.assert_fault(("key", REST), {**self.plan, ASKED: (3, self.plan[ASKED][1])})
        self.assert_fault(("acts", ASKED), {REST: (2, 0), ASKED: (2, {})})
        self.assert_fault(("acts", ASKED), {REST: (2, 0), ASKED: (1, {})})

    def test_acts(self):
        right = {("write", 1): "done", ("copy", 0, 1): "done"}
        wrong = [None, True, 0, [], (), "acts", list(right), {}, {("write", 1): "done"}, {("copy", 0, 1): "done"},
                 {**right, ("erase", 0): "done"}, {**right, 0: "done"}, {**right, None: "done"},
                 {("write", 1): "done", ("copy", 0, 0): "done"}, {("write", 1): "done", 5: "done"},
                 {("write", True): "done", ("copy", 0, 1): "done"}, {("write", 1): "done", ("copy", False, 1): "done"},
                 {("write", 1): "done", ("copy", 0, True): "done"}]
        for choice in wrong:
            with self.subTest(choice):
                self.assert_fault(("acts", ASKED), {**self.plan, ASKED: (2, choice)})

    def test_replies_that_are_not_let(self):
        for reply in ["bad", "cut", "late"] + spoil.JUNK_REPLIES:
            with self.subTest(reply):
                choice = {("write", 1): reply, ("copy", 0, 1): "done"}
                self.assert_fault(("reply", ASKED, ("write", 1)), {**self.plan, ASKED: (2, choice)})
                choice = {("copy", 0, 1): reply, ("write", 1): "done"}
                self.assert_fault(("reply", ASKED, ("copy", 0, 1)), {**self.plan, ASKED: (2, choice)})

    def test_what_stands_behind_a_reply(self):
        self.assertIn(BEHIND, self.plan)
        for limit in (2, 3):
            self.assert_fault(("reply", ASKED, ("write", 1)), {**self.plan, BEHIND: (limit, 0)})
        thing = dict(self.plan)
        del thing[BEHIND]
        self.assert_fault(("reply", ASKED, ("write", 1)), thing)

    def test_what_stands_behind_the_first_wrong_act_counts(self):
        stand = Stand(2, [(0, (0, "free")), (0, ("old", "free"))], 0, 0, asked=1)
        acts = [("write", 0), ("write", 1), ("copy", 0, 1)]
        self.assertEqual(stand.acts(), acts)
        behind = [stand.after(act, "done").shape() for act in acts]
        right = {stand.shape(): (2, {act: "done" for act in acts}), behind[0]: (1, None), behind[1]: (1, None)}
        # All these shapes have faults; that of the stand is the least of them.
        self.assertEqual(min(right, key=str), stand.shape())
        self.assert_fault(("reply", stand.shape(), acts[2]), right, 2, stand)
        for at in (0, 1):
            fault = ("reply", stand.shape(), acts[at])
            self.assert_fault(fault, {**right, behind[at]: (2, None)}, 2, stand)
            self.assert_fault(fault, {shape: right[shape] for shape in right if shape != behind[at]}, 2, stand)
        self.assert_fault(("reply", stand.shape(), acts[0]), {stand.shape(): right[stand.shape()]}, 2, stand)

    def test_at_limit_0_no_reply_serves(self):
        stand = fresh(1, 1, 1, 0, 0, 1).put(0)
        behind = {reply: stand.after(("write", 0), reply).shape() for reply in ("done", "cut", "late")}
        stuck = {shape[:4] + (0,): (0, {}) for shape in behind.values()}
        for reply in ("cut", "late"):
            thing = {stand.shape(): (0, {("write", 0): reply}), behind[reply]: (0, 0), **stuck}
            self.assert_fault(None, thing, 0, stand)
        thing = {stand.shape(): (0, {("write", 0): "done"}), behind["done"]: (0, 0), **stuck}
        self.assert_fault(("reply", stand.shape(), ("write", 0)), thing, 0, stand)
        thing[stand.shape()] = (1, {("write", 0): "done"})
        self.assert_fault(None, thing, 1, stand)

    def test_the_least_shape_by_its_string(self):
        shapes = [(1, ((left, ("old",)),), 0, 0, 0) for left in (9, 10, 2, 99)]
        for most in range(1, 5):
            thing = {**{shape: (1, None) for shape in shapes[:most]}, **self.plan}
            self.assert_fault(("acts", min(shapes[:most], key=str)), thing)

    def test_spoilt_plans_are_judged_as_the_slow_judge_does(self):
        rng = random.Random(34)
        faults = {}
        for shape in slow.some_shapes(34, 90):
            stand = stand_of(shape)
            many = life(stand)
            if many is None:
                continue
            right = enemy_plan(stand)
            for _ in range(30):
                thing = spoil.spoilt_enemy_plan(rng, right, lambda spot: spot)
                n = rng.choice([many, many, many + 1, 0])
                fault = of_shapes(slow.enemy_fault((shape, ()), n, as_views(thing)))
                with self.subTest(shape=shape, thing=thing):
                    self.assert_fault(fault, thing, n, stand)
                faults[fault and fault[0]] = True
        self.assertEqual(set(faults), {None, "first", "key", "acts", "reply"})


if __name__ == "__main__":
    unittest.main()
