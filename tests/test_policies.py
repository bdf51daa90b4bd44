"""[19], [20]: policies, what they tell, what they serve, and how they end."""

import random
import unittest

from spentblocks.errors import NoActs, NoMost, NoNumber, NoPolicy, NotAsked, TooMany
from spentblocks.lives import life, plan
from spentblocks.policies import policy_act, policy_fault, policy_life, policy_row
from spentblocks.stands import Stand, fresh, stand_of
from tests import slow, slowmore

SMALL = Stand(1, [(1, (0,)), (0, ("free",))], 0, 0)
STUCK = Stand(1, [(None, (0,)), (0, ("old",))], 1, 1, asked=0)
WORDS = ("first", "greedy", "even")
WRONG_BOUNDS = [0, -1, 100001, 10 ** 29, True, False, None, "20000", "", (), [5]]
NO_POLICIES = [None, True, False, 0, 1, "", "First", "first ", "last", "greedy\n", "book", (), ("first",), ["first"], [],
               [{}], ({},), SMALL]
WRONG_NUMBERS = [-1, -10 ** 29, True, False, None, "0", "", (), [0], {}]


def asked(blocks, keys=3, fails=0, cuts=0, key=0):
    return Stand(keys, blocks, fails, cuts, asked=key)


def book_of(rng, shape, wrong=0.1):
    """A book of some acts for each asked shape that can be come to; some are lacking or wrong."""
    book = {}
    for other, _ in slow.reach((shape, ())):
        acts = slow.acts(other)
        if acts and rng.random() >= wrong:
            book[other] = rng.choice(acts)
        elif rng.random() < 0.5:
            book[other] = rng.choice([("write", 9), ("write", True), ["write", 0], None, ("erase",), ()])
    return book


def some_policies(rng, shape):
    return list(WORDS) + [book_of(rng, shape), book_of(rng, shape, 0)]


class Told(unittest.TestCase):

    def test_first(self):
        self.assertEqual(policy_act(SMALL.put(0), "first"), ("write", 1))
        self.assertEqual(policy_act(asked([(0, (0, "old")), (2, ("old", "old"))]), "first"), ("erase", 1))

    def assert_both(self, greedy, even, blocks, **more):
        stand = asked(blocks, **more)
        self.assertEqual(policy_act(stand, "greedy"), greedy)
        self.assertEqual(policy_act(stand, "even"), even)

    def test_a_write_with_two_free_pages_or_more(self):
        # The victims, block 1 and behind it block 2, are left alone.
        self.assert_both(("write", 0), ("write", 0), [(0, ("free", "free")), (9, ("old", "old")), (9, (1, "old"))])
        self.assert_both(("write", 2), ("write", 2),
                         [(0, ("free", "free")), (9, ("old", "old")), (0, (1, "free")), (0, (2, "old"))])
        self.assert_both(("write", 0), ("write", 0), [(0, (1, "free")), (0, (2, "free")), (9, ("old", "old"))])

    def test_a_write_without_a_victim(self):
        self.assert_both(("write", 1), ("write", 1), [(0, ("old", "old")), (0, (1, "free")), (None, ("old", "old"))])
        self.assert_both(("write", 0), ("write", 0), [(5, (1, "free"))])

    def test_equal_blocks_to_write_to(self):
        rows = [(1, ("old", "free", "free")), (2, (1, 2, "free")), (3, ("old", "old", "free")), (3, (0, "old", "free"))]
        self.assert_both(("write", 1), ("write", 2), rows)
        rows[3] = ("ever", rows[3][1])
        self.assert_both(("write", 1), ("write", 3), rows)
        rows[0] = ("ever", rows[0][1])
        self.assert_both(("write", 1), ("write", 3), rows)
        rows[1] = (0, rows[1][1])
        self.assert_both(("write", 1), ("write", 3), rows)
        self.assert_both(("write", 0), ("write", 1), [(0, ("free",)), (99, ("free",)), (98, ("free",))])
        self.assert_both(("write", 0), ("write", 1), [(99, ("free",)), ("ever", ("free",)), ("ever", ("free",))])
        self.assert_both(("write", 0), ("write", 0), [(7, ("free",)), (7, ("free",)), (6, ("free",))])

    def test_fewer_free_pages_count_ahead_of_lefts(self):
        self.assert_both(("write", 1), ("write", 1), [("ever", ("free", "free")), (0, ("old", "free"))])
        self.assert_both(("write", 2), ("write", 2),
                         [("ever", ("free", "free")), (None, ("old", "old")), (0, ("old", "free"))])

    def test_a_victim_without_copies_is_erased(self):
        self.assert_both(("erase", 1), ("erase", 1), [(0, (0, "free")), (1, ("old", "old"))])
        self.assert_both(("erase", 1), ("erase", 1), [(0, (0, "old")), (1, ("old", "old"))])
        self.assert_both(("erase", 2), ("erase", 2), [(0, ("old", "old")), (None, ("old", "old")), (1, ("old", "old"))])

    def test_one_free_page_and_a_victim_with_copies(self):
        self.assert_both(("copy", 1, 0), ("copy", 1, 0), [(0, ("old", "free")), (1, (2, 1))])
        self.assert_both(("copy", 0, 1), ("copy", 0, 1), [(1, ("old", 0)), (0, (2, "free"))])
        # A copy of the asked key, too.
        self.assert_both(("copy", 2, 1), ("copy", 2, 1), [(1, (2, "old")), (0, (0, "free"))], key=2)

    def test_the_victim_with_the_fewest_copies(self):
        rows = [(0, ("old", "old", "free")), (3, (0, 1, 2)), (1, (3, "old", 4)), (2, (5, "old", 6))]
        self.assert_both(("copy", 3, 0), ("copy", 5, 0), rows, keys=7)
        rows[2] = ("ever", rows[2][1])
        self.assert_both(("copy", 3, 0), ("copy", 3, 0), rows, keys=7)
        rows[3] = ("ever", rows[3][1])
        self.assert_both(("copy", 3, 0), ("copy", 3, 0), rows, keys=7)
        rows[1] = (99, (0, "old", "old"))
        self.assert_both(("copy", 0, 0), ("copy", 0, 0), rows, keys=7)
        rows[1] = (0, (0, "old", "old"))
        self.assert_both(("copy", 3, 0), ("copy", 3, 0), rows, keys=7)
        rows[1] = (None, (0, "old", "old"))
        self.assert_both(("copy", 3, 0), ("copy", 3, 0), rows, keys=7)

    def test_equal_victims_without_copies(self):
        self.assert_both(("erase", 0), ("erase", 1), [(1, ("old",)), (2, ("old",)), (2, ("old",)), (0, ("free",))])
        self.assert_both(("erase", 0), ("erase", 2), [(1, ("old",)), (99, ("old",)), ("ever", ("old",))])

    def test_no_room_for_the_copies_of_a_victim(self):
        # No page is free, and no block can be erased: then there is no act at all.
        for word in WORDS:
            self.assertRaises(NoActs, policy_act, asked([(1, (0, "old")), (1, (1, "old"))]), word)
            self.assertRaises(NoActs, policy_act, asked([(0, ("old", "old")), (1, (1, "old"))]), word)

    def test_words_reckoned(self):
        rng = random.Random(191)
        for _ in range(4000):
            shape = slow.some_shape(rng, (0, 1, 2, 2, "ever", "ever", None))
            if shape[4] is None:
                continue
            for word in WORDS:
                act = slowmore.policy_act(shape, word)
                with self.subTest(shape=shape, word=word):
                    if act is None:
                        self.assertRaises(NoActs, policy_act, stand_of(shape), word)
                    else:
                        self.assertEqual(policy_act(stand_of(shape), word), act)

    def test_wide_stands_reckoned(self):
        rng = random.Random(192)
        for _ in range(3000):
            pages = rng.randint(1, 3)
            rows, keys = [], list(range(9))
            rng.shuffle(keys)
            for _ in range(rng.randint(2, 9)):
                row = [keys.pop() if keys and rng.random() < 0.3 else "old" for _ in range(pages)]
                if rng.random() < 0.2:
                    row[-1] = "free"
                rows.append((rng.choice([0, 1, 2, "ever"]), tuple(row)))
            stand = asked(rows, keys=9, key=rng.randrange(9))
            for word in WORDS:
                with self.subTest(shape=stand.shape(), word=word):
                    act = slowmore.policy_act(stand.shape(), word)
                    if act is None:
                        self.assertRaises(NoActs, policy_act, stand, word)
                    else:
                        self.assertEqual(policy_act(stand, word), act)

    def test_books(self):
        stand = SMALL.put(0)
        for act in (("write", 1), ("copy", 0, 1)):
            book = {stand.shape(): act}
            self.assertEqual(policy_act(stand, book), act)
            self.assertEqual(book, {stand.shape(): act})
        self.assertRaises(NoActs, policy_act, stand, {})
        self.assertRaises(NoActs, policy_act, stand, {SMALL.shape(): ("write", 1)})
        for act in [None, (), "write", 0, True, ["write", 1], ("write", True), ("write", 0), ("write", 2), ("write",),
                    ("write", "1"), ("copy", False, 1), ("copy", 0, True), ["copy", 0, 1], ("erase", 0), ("write", 1, 0),
                    (("write", 1),), {}, stand, SMALL]:
            with self.subTest(act):
                self.assertRaises(NoActs, policy_act, stand, {stand.shape(): act})

    def test_the_rest_of_a_book_is_not_looked_at(self):
        stand = SMALL.put(0)
        book = {None: 5, "first": [], (): ("write",), 0: None, True: 1, stand.shape(): ("write", 1), (1, (2,)): {}}
        self.assertEqual(policy_act(stand, book), ("write", 1))
        self.assertEqual(policy_life(Stand(1, [(None, (0,))], 0, 0), {None: 5, 0: []}), 0)

    def test_no_acts(self):
        for policy in WORDS + ({}, {STUCK.shape(): ("write", 0)}):
            self.assertRaises(NoActs, policy_act, STUCK, policy)

    def test_errors_in_their_order(self):
        for policy in NO_POLICIES:
            with self.subTest(policy):
                self.assertRaises(NotAsked, policy_act, SMALL, policy)
                self.assertRaises(NoPolicy, policy_act, SMALL.put(0), policy)
                self.assertRaises(NoPolicy, policy_act, STUCK, policy)
        for policy in WORDS + ({},):
            self.assertRaises(NotAsked, policy_act, SMALL, policy)


class Lives(unittest.TestCase):

    def test_examples(self):
        self.assertEqual(policy_life(SMALL, "first"), 2)
        self.assertEqual(policy_life(SMALL, "greedy"), 1)

    def test_by_hand(self):
        self.assertEqual(policy_life(STUCK, "even"), 0)
        self.assertEqual(policy_life(fresh(1, 3, 1, "ever", 0, 0), "greedy"), None)
        self.assertEqual(policy_life(SMALL, {}), 0)
        self.assertEqual(policy_life(SMALL, {SMALL.put(0).shape(): ("write", 1)}), 1)
        self.assertEqual(policy_life(SMALL.put(0), {SMALL.put(0).shape(): ("write", 1)}), 1)

    def test_a_book_that_goes_round_without_serving(self):
        one = Stand(1, [("ever", (0,)), ("ever", ("free",))], 0, 0, asked=0)
        book = {one.shape(): ("copy", 0, 1), one.after(("copy", 0, 1), "done").shape(): ("erase", 0)}
        other = one.after(("copy", 0, 1), "done").after(("erase", 0), "done")
        book[other.shape()] = ("copy", 0, 0)
        book[other.after(("copy", 0, 0), "done").shape()] = ("erase", 1)
        self.assertEqual(policy_life(one, book), 0)
        self.assertEqual(policy_row(one, book), ["done"] * 4)
        rest = Stand(1, [("ever", (0,)), ("ever", ("free",))], 0, 0)
        self.assertEqual(policy_row(rest, book), [0] + ["done"] * 4)
        self.assertIsNone(policy_fault(rest, book, 0, [0] + ["done"] * 4))
        self.assertEqual(policy_fault(rest, book, 0, [0] + ["done"] * 5), ("item", 5))
        self.assertEqual(policy_fault(rest, book, 0, [0] + ["done"] * 3), ("end",))
        del book[other.shape()]
        self.assertEqual(policy_row(rest, book), [0, "done", "done"])

    def test_a_round_only_while_fails_or_cuts_are_left(self):
        # With all losses left the book goes round; with fewer it serves for ever.
        for fails, cuts in ((1, 0), (0, 1)):
            stand = Stand(1, [("ever", (0,)), ("ever", ("free",)), ("ever", ("old",))], fails, cuts, asked=0)
            reached = [shape for shape, _ in slow.reach((stand.shape(), ())) if slow.acts(shape)]
            book = {shape: slowmore.policy_act(shape, "first") for shape in reached}
            self.assertIsNone(policy_life(stand, book))
            end = stand
            for act in (("copy", 0, 1), ("erase", 0), ("copy", 0, 0), ("erase", 1)):
                book[end.shape()] = act
                end = end.after(act, "done")
            self.assertEqual(end, stand)
            self.assertEqual(policy_life(stand, book), 0)
            self.assertEqual(policy_row(stand, book), ["done"] * 4)
            self.check(stand.shape(), book)

    def test_a_stand_that_was_there_ahead_of_the_last_put_is_no_end(self):
        # The put is cut behind an act that changes nothing, and asked again; behind that no power is lost.
        stand = Stand(1, [(0, ("old", "free"))], 0, 2)
        for policy in ("first", {stand.put(0).shape(): ("write", 0)}):
            self.assertEqual(policy_life(stand, policy), 0)
            row = policy_row(stand, policy)
            self.assertIsNone(policy_fault(stand, policy, 0, row))

    def check(self, shape, policy):
        stand = stand_of(shape)
        many = slowmore.policy_life(shape, policy)
        kept = dict(policy) if isinstance(policy, dict) else policy
        self.assertEqual(policy_life(stand, policy), many)
        row = policy_row(stand, policy)
        self.assertEqual(policy, kept)
        if many is None:
            self.assertIsNone(row)
        else:
            self.assertIs(type(row), list)
            self.assertIsNone(slowmore.policy_fault(shape, policy, many, row))
            self.assertIsNone(policy_fault(stand, policy, many, row))
        self.assertTrue(slow.at_least(life(stand), many))

    def test_reckoned(self):
        rng = random.Random(201)
        for lefts in ((0, 1, 2, "ever", None), ("ever",), (0, 1, 2), ("ever", "ever", 1)):
            for shape in slow.some_shapes(201 + len(lefts), 60, 400, lefts=lefts):
                for policy in some_policies(rng, shape):
                    with self.subTest(shape=shape, policy=policy):
                        self.check(shape, policy)

    def test_for_ever_with_words(self):
        found = []
        for shape in slow.some_shapes(205, 80, 700, lefts=("ever",)):
            for word in WORDS:
                self.check(shape, word)
                found.append(policy_life(stand_of(shape), word))
        self.assertGreater(found.count(None), 10)

    def test_books_of_plans(self):
        for lefts in ((0, 1, 2, "ever", None), ("ever",)):
            for shape in slow.some_shapes(206, 60, 400, lefts=lefts):
                stand = stand_of(shape)
                book = {other: entry[2] for other, entry in plan(stand).items() if entry[2] is not None}
                with self.subTest(shape):
                    self.assertEqual(policy_life(stand, book), life(stand))

    def test_errors_in_their_order(self):
        for function in (policy_life, policy_row):
            for policy in NO_POLICIES:
                with self.subTest(policy):
                    self.assertRaises(NoPolicy, function, SMALL, policy)
                    self.assertRaises(NoPolicy, function, SMALL.put(0), policy, most=0)
            for most in WRONG_BOUNDS:
                with self.subTest(most):
                    for policy in WORDS + ({},):
                        self.assertRaises(NoMost, function, SMALL, policy, most=most)
            self.assertRaises(TypeError, function, SMALL, "first", 20000)

    def test_too_many_exactly(self):
        rng = random.Random(207)
        for shape in slow.some_shapes(207, 50, 400):
            for policy in some_policies(rng, shape):
                stand, many = stand_of(shape), slowmore.policy_count(shape, policy)
                for function in (policy_life, policy_row):
                    with self.subTest(shape=shape, policy=policy):
                        self.assertEqual(function(stand, policy, most=many), function(stand, policy))
                        if many > 1:
                            with self.assertRaises(TooMany) as caught:
                                function(stand, policy, most=many - 1)
                            self.assertEqual(caught.exception.most, many - 1)

    def test_the_bound_that_counts_without_one(self):
        stand = fresh(9, 4, 3, 9, 1, 1)
        for function in (policy_life, policy_row):
            with self.assertRaises(TooMany) as caught:
                function(stand, "even")
            self.assertEqual(caught.exception.most, 20000)
        self.assertEqual(policy_life(fresh(9, 9, 6, "ever", 9, 9), {}), 0)

    def test_rows_are_new(self):
        row = policy_row(SMALL, "first")
        kept = list(row)
        row.clear()
        self.assertEqual(policy_row(SMALL, "first"), kept)


class Faults(unittest.TestCase):

    def assert_fault(self, fault, stand, policy, n, thing):
        kept = repr(thing)
        self.assertEqual(policy_fault(stand, policy, n, thing), fault)
        self.assertEqual(repr(thing), kept)

    def test_by_hand(self):
        right = [0, "done", 0, "done", "done", 0]
        self.assert_fault(None, SMALL, "first", 2, right)
        for n in (0, 1, 3, 10 ** 29):
            self.assert_fault(("number", 2), SMALL, "first", n, right)
        for many in range(6):
            self.assert_fault(("end",), SMALL, "first", 2, right[:many])
        for item in (0, "done", None):
            self.assert_fault(("item", 6), SMALL, "first", 2, right + [item])
        self.assert_fault(None, STUCK, "first", 0, [])
        self.assert_fault(("number", 0), STUCK, "first", 1, [])
        self.assert_fault(("item", 0), STUCK, "first", 0, ["done"])
        self.assert_fault(("item", 0), STUCK, "first", 0, [0])

    def test_forms(self):
        for thing in [None, True, 0, "", "done", (), (0,), {}, {0: "done"}, SMALL]:
            with self.subTest(thing):
                self.assert_fault(("form",), SMALL, "first", 2, thing)
                self.assert_fault(("form",), STUCK, {}, 0, thing)

    def test_items_that_are_none(self):
        for item in [None, True, False, -1, 1, 9, "0", "done", (), (0,), [], [0], {}, SMALL]:
            with self.subTest(item):
                self.assert_fault(("item", 0), SMALL, "first", 2, [item, 5])
                self.assert_fault(("item", 2), SMALL, "first", 2, [0, "done", item])
        for item in [None, True, False, 0, 1, "", "Done", "bad", "cut", "late", "torn", (), ("done",), ["done"],
                     (("write", 1), "done"), {}, SMALL]:
            with self.subTest(item):
                self.assert_fault(("item", 1), SMALL, "first", 2, [0, item, 5])
                self.assert_fault(("item", 0), SMALL.put(0), "first", 2, [item])

    def test_replies_that_are_let(self):
        stand = fresh(1, 2, 1, 0, 1, 1)
        self.assert_fault(None, stand, "first", 0, [0, "bad", "cut", 0])
        self.assert_fault(None, stand, "first", 1, [0, "bad", "done", 0])
        self.assert_fault(None, stand, "first", 0, [0, "late", 0, "bad"])
        self.assert_fault(("item", 2), stand, "first", 0, [0, "bad", "bad"])
        self.assert_fault(("item", 3), stand, "first", 0, [0, "late", 0, "cut"])

    def test_reckoned(self):
        rng = random.Random(211)
        faults = {}
        for shape in slow.some_shapes(211, 80, 400):
            for policy in some_policies(rng, shape):
                stand, many = stand_of(shape), slowmore.policy_life(shape, policy)
                row = policy_row(stand, policy) or []
                for _ in range(6):
                    n = rng.choice([many or 0, many or 0, 0, 1, (many or 0) + 1])
                    thing = self.spoilt(rng, row)
                    with self.subTest(shape=shape, policy=policy, thing=thing, n=n):
                        fault = slowmore.policy_fault(shape, policy, n, thing)
                        self.assert_fault(fault, stand, policy, n, thing)
                    faults.setdefault(fault and fault[0], []).append(fault)
        self.assertEqual(set(faults), {None, "item", "end", "number"})

    def spoilt(self, rng, row):
        row, odd = list(row), [0, 1, "done", "bad", "cut", "late", True, None, ("done",), -1]
        way = rng.choice(["not", "cut off", "longer", "other", "other", "drop", "any"])
        if way == "cut off" and row:
            del row[rng.randrange(len(row)):]
        elif way == "longer":
            row.append(rng.choice(odd))
        elif way == "other" and row:
            row[rng.randrange(len(row))] = rng.choice(odd)
        elif way == "drop" and row:
            del row[rng.randrange(len(row))]
        elif way == "any":
            row = [rng.choice([0, 0, "done", "done", "bad", "cut", "late"]) for _ in range(rng.randint(0, 6))]
        return row

    def test_errors_in_their_order(self):
        for policy in NO_POLICIES:
            with self.subTest(policy):
                self.assertRaises(NoPolicy, policy_fault, SMALL, policy, 2, [])
                self.assertRaises(NoPolicy, policy_fault, SMALL, policy, None, None)
        for n in WRONG_NUMBERS:
            with self.subTest(n):
                for policy in WORDS + ({},):
                    self.assertRaises(NoNumber, policy_fault, SMALL, policy, n, [])
                    self.assertRaises(NoNumber, policy_fault, SMALL, policy, n, None)

    def test_the_stand_stays(self):
        shape = SMALL.shape()
        policy_life(SMALL, "first")
        policy_fault(SMALL, "first", 2, [0])
        self.assertEqual(SMALL.shape(), shape)


if __name__ == "__main__":
    unittest.main()
