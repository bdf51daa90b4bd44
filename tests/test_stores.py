"""[28]: the store of records on a chip."""

import random
import unittest

from spentblocks.chips import Chip
from spentblocks.errors import IsOver, NoAdviser, NoKey, NoKeys, NoStand, NoValue, PowerLost, Unserved
from spentblocks.records import record
from spentblocks.stands import Stand
from spentblocks.stores import Store, stand_seen
from tests import slow, slowchip
from tests.test_looks import some_chip

STAND = Stand(1, [(0, (0,))], 0, 0)
WORDS = ("first", "greedy", "even")
NO_KEYS = [None, True, False, 0, -1, 10, 10 ** 29, "", "1", (), [1], {}, STAND]
NO_ADVISERS = [None, True, False, 0, 1, "", "First", "first ", "last", "book", (), ("first",), ["first"], [], [{}], ({},), STAND]
WRONG_KEYS = [None, True, False, -1, 2, 10 ** 29, "", "0", (), (0,), [0], {}, STAND]
NO_VALUES = [None, True, 0, "", "ab", [], [1], {}, STAND, (0,) * 51, (256,), (-1,), (True,), (0, False), (None,), ("1",),
             ((1,),)]
NO_LOSSES = [None, True, False, -1, 10, 10 ** 29, "", "1", (), [1], {}]


def some_value(rng):
    return tuple(rng.randrange(256) for _ in range(rng.choice([0, 1, 2, 50])))


def some_book(rng, shape, puts):
    """A book of acts at random for shapes that are come to with these puts, some lacking or wrong."""
    book = {}
    queue = [shape]
    while queue and len(book) < puts:
        other = queue.pop(rng.randrange(len(queue)))
        if other in book:
            continue
        if other[4] is None:
            queue.extend(other[:4] + (key,) for key in range(other[0]))
            continue
        acts = slow.acts(other)
        if rng.random() < 0.05 or not acts:
            book[other] = rng.choice([None, (), ("write", 9), ["write", 0], ("write", True), ("erase",)])
            continue
        book[other] = rng.choice(acts)
        queue.extend(slow.after(other, book[other], reply)[0] for reply in slow.replies(other))
    return book


def twins(rng):
    """A small chip at random, and its model, with no replies told."""
    while True:
        chip, model = some_chip(rng, (1, 2, 255, 65535, 10 ** 9))
        if chip.size()[0] * chip.size()[1] <= 12:
            chip.tell([])
            model["told"] = []
            return chip, model


def tell(chip, model, words):
    told = [slowchip.told_reply(word, (1, 2, 3)) for word in words]
    chip.tell(told)
    model["told"] = list(told)


class ByHand(unittest.TestCase):

    def test_a_put(self):
        chip = Chip(2, 2, 1)
        store = Store(chip, 2, "first")
        self.assertEqual([store.get(0), store.get(1)], [None, None])
        self.assertEqual(store.put(0, (7, 8), 0, 0), [("write", 0)])
        self.assertEqual(chip.read(0, 0), record(0, 1, (7, 8)))
        self.assertEqual(store.put(0, (), 0, 0), [("write", 0)])
        self.assertEqual(chip.read(0, 1), record(0, 2, ()))
        self.assertEqual(store.put(1, (9,), 0, 0), [("write", 1)])
        self.assertEqual([store.get(0), store.get(1)], [(), (9,)])
        self.assertEqual(store.stand(3, 4), Stand(2, [(1, ("old", 0)), (1, (1, "free"))], 3, 4))

    def test_a_copy_writes_the_value_again(self):
        shape = (1, ((1, (0, "old")), (1, ("free", "free"))), 0, 0, 0)
        book = {shape: ("copy", 0, 1)}
        chip = Chip(2, 2, 1)
        chip.write(0, record(0, 77, (7, 8)))
        chip.write(0, record(5, 300, (1,)))
        behind = (1, ((1, ("old", "old")), (1, (0, "free"))), 0, 0, 0)
        book[behind] = ("erase", 0)
        last = (1, ((0, ("free", "free")), (1, (0, "free"))), 0, 0, 0)
        book[last] = ("write", 0)
        store = Store(chip, 1, book)
        self.assertEqual(store.put(0, (9,), 0, 0), [("copy", 0, 1), ("erase", 0), ("write", 0)])
        # The number behind the copy is one more than 300; behind the erase it is told anew by what lies there.
        self.assertEqual(chip.read(1, 0), record(0, 301, (7, 8)))
        self.assertEqual(chip.read(0, 0), record(0, 302, (9,)))
        self.assertEqual(store.get(0), (9,))

    def test_the_greatest_number_may_be_erased(self):
        chip = Chip(2, 1, 1)
        chip.write(0, record(8, 500, ()))
        chip.write(1, record(0, 3, (1,)))
        store = Store(chip, 1, "first")
        self.assertEqual(store.put(0, (2,), 0, 0), [("erase", 0), ("write", 0)])
        self.assertEqual(chip.read(0, 0), record(0, 4, (2,)))

    def test_a_book_is_copied_and_the_chip_is_not(self):
        chip = Chip(1, 2, 0)
        shape = (1, ((0, ("free", "free")),), 0, 0, 0)
        book = {shape: ("write", 0)}
        store = Store(chip, 1, book)
        book.clear()
        self.assertEqual(store.put(0, (1,), 0, 0), [("write", 0)])
        self.assertEqual(chip.read(0, 0), record(0, 1, (1,)))
        self.assertRaises(Unserved, store.put, 0, (1,), 0, 0)

    def test_lists_may_be_changed(self):
        store = Store(Chip(1, 6, 0), 1, "first")
        store.put(0, (1,), 0, 0).clear()
        rows = [(0, (2,)), (0, (3,))]
        self.assertEqual(store.serves(rows, 0, 0), (2, store))
        self.assertEqual(rows, [(0, (2,)), (0, (3,))])
        self.assertEqual(store.get(0), (3,))

    def test_every_value_and_the_greatest_number(self):
        chip = Chip(1, 6, 0)
        chip.write(0, record(0, 2 ** 32 - 3, ()))
        store = Store(chip, 1, "first")
        for value in ((), (0,) * 50):
            store.put(0, value, 0, 0)
            self.assertEqual(store.get(0), value)
        self.assertEqual(chip.read(0, 2), record(0, 2 ** 32 - 1, (0,) * 50))


class NotServed(unittest.TestCase):

    def test_no_act(self):
        chip = Chip(1, 1, 1)
        store = Store(chip, 2, "greedy")
        store.put(1, (5,), 0, 0)
        for _ in range(2):
            with self.assertRaises(Unserved) as caught:
                store.put(0, (1,), 0, 0)
            self.assertEqual(caught.exception.key, 0)
        self.assertEqual([store.get(0), store.get(1)], [None, (5,)])
        self.assertEqual(store.stand(0, 0), Stand(2, [(1, (1,))], 0, 0))

    def test_a_stand_that_was_there_before(self):
        # The book copies the key to and fro, and erases behind it for ever.
        one = (1, (("ever", (0,)), ("ever", ("free",))), 0, 0, 0)
        two = (1, (("ever", ("old",)), ("ever", (0,))), 0, 0, 0)
        three = (1, (("ever", ("free",)), ("ever", (0,))), 0, 0, 0)
        four = (1, (("ever", (0,)), ("ever", ("old",))), 0, 0, 0)
        book = {one: ("copy", 0, 1), two: ("erase", 0), three: ("copy", 0, 0), four: ("erase", 1)}
        chip = Chip(2, 1, "ever")
        chip.write(0, record(0, 1, (5,)))
        store = Store(chip, 1, book)
        with self.assertRaises(Unserved) as caught:
            store.put(0, (9,), 0, 0)
        self.assertEqual(caught.exception.key, 0)
        self.assertEqual(chip.read(0, 0), record(0, 3, (5,)))
        self.assertEqual(store.stand(0, 0).shape(), one[:4] + (None,))
        # The store goes on, and forgets what it saw at the put before.
        self.assertRaises(Unserved, store.put, 0, (9,), 0, 0)
        self.assertEqual(chip.read(0, 0), record(0, 5, (5,)))
        self.assertEqual(store.get(0), (5,))

    def test_an_act_of_a_book_that_is_none(self):
        shape = (2, ((0, ("free", "free")),), 0, 0, 1)
        for act in [None, (), ("write", 1), ["write", 0], ("write", False), ("erase", 0), "first", 0]:
            store = Store(Chip(1, 2, 0), 2, {shape: act})
            with self.assertRaises(Unserved) as caught:
                store.put(1, (9,), 0, 0)
            self.assertEqual(caught.exception.key, 1)
            self.assertEqual(store.stand(0, 0).shape(), shape[:4] + (None,))

    def test_a_book_is_asked_with_these_fails_and_cuts(self):
        shape = (1, ((0, ("free", "free")),), 2, 3, 0)
        store = Store(Chip(1, 2, 0), 1, {shape: ("write", 0)})
        for fails, cuts in [(0, 0), (2, 2), (1, 3), (3, 3)]:
            self.assertRaises(Unserved, store.put, 0, (1,), fails, cuts)
        self.assertEqual(store.put(0, (1,), 2, 3), [("write", 0)])


class Losses(unittest.TestCase):

    def test_bad_blocks(self):
        chip = Chip(3, 2, 1)
        store = Store(chip, 1, "first")
        chip.tell(["bad", "done", "bad"])
        self.assertEqual(store.put(0, (1,), 1, 0), [("write", 0), ("write", 1)])
        self.assertEqual(store.put(0, (2,), 0, 0), [("write", 1), ("write", 2)])
        self.assertEqual(store.stand(0, 0), Stand(1, [(None, ("old",) * 2), (None, ("old", "old")), (1, (0, "free"))], 0, 0))
        self.assertEqual(store.get(0), (2,))

    def test_fails_are_one_less_but_at_least_0(self):
        start = (1, ((0, ("free",)), (0, ("free",)), (0, ("free",))))
        one = (1, ((None, ("old",)), (0, ("free",)), (0, ("free",))))
        two = (1, ((None, ("old",)), (None, ("old",)), (0, ("free",))))
        book = {start + (1, 4, 0): ("write", 0), one + (0, 4, 0): ("write", 1), two + (0, 4, 0): ("write", 2)}
        chip = Chip(3, 1, 0)
        chip.tell(["bad", "bad"])
        self.assertEqual(Store(chip, 1, book).put(0, (), 1, 4), [("write", 0), ("write", 1), ("write", 2)])

    def assert_over(self, store):
        for call in (lambda: store.get(0), lambda: store.get(None), lambda: store.stand(0, 0), lambda: store.stand(-1, None),
                     lambda: store.put(0, (1,), 0, 0), lambda: store.put(None, None, None, None),
                     lambda: store.serves([], 0, 0), lambda: store.serves([(0, (1,))], 0, 0)):
            self.assertRaises(IsOver, call)

    def test_power_lost(self):
        for reply, value, page in [(("cut", (9, 9)), (1,), "old"), (("late",), (2,), 0)]:
            chip = Chip(2, 2, 1)
            store = Store(chip, 1, "first")
            store.put(0, (1,), 0, 2)
            chip.tell([reply, "done"])
            self.assertRaises(PowerLost, store.put, 0, (2,), 0, 2)
            self.assertEqual(chip.told(), ["done"])
            before = slowchip.seen(chip)
            self.assert_over(store)
            self.assertEqual(slowchip.seen(chip), before)
            store = Store(chip, 1, "first")
            self.assertEqual(store.get(0), value)
            self.assertEqual(store.stand(0, 1).blocks()[0], (1, ("old" if page == 0 else 0, page)))

    def test_power_lost_within_an_erase(self):
        for reply, pages in [(("cut", ()), ("old", "old")), (("late",), ("free", "free"))]:
            chip = Chip(2, 2, 1)
            chip.write(0, ())
            chip.write(0, ())
            chip.write(1, record(0, 1, (4,)))
            store = Store(chip, 1, "greedy")
            chip.tell([reply])
            self.assertRaises(PowerLost, store.put, 0, (2,), 0, 2)
            self.assert_over(store)
            store = Store(chip, 1, "greedy")
            self.assertEqual(store.get(0), (4,))
            self.assertEqual(store.stand(0, 0).blocks(), [(0, pages), (1, (0, "free"))])

    def test_another_store_on_the_chip_is_not_over(self):
        chip = Chip(1, 2, 1)
        store, other = Store(chip, 1, "first"), Store(chip, 1, "first")
        chip.tell([("cut", ())])
        self.assertRaises(PowerLost, store.put, 0, (2,), 0, 1)
        self.assertIsNone(other.get(0))


class Wrong(unittest.TestCase):

    def assert_part(self, part, call, *arguments):
        with self.assertRaises(NoStand) as caught:
            call(*arguments)
        self.assertEqual(caught.exception.part, part)

    def test_no_keys_and_then_no_adviser(self):
        chip = Chip(1, 1, 1)
        for wrong in NO_KEYS:
            with self.subTest(wrong):
                self.assertRaises(NoKeys, Store, chip, wrong, "first")
                self.assertRaises(NoKeys, Store, chip, wrong, None)
        for wrong in NO_ADVISERS:
            with self.subTest(wrong):
                self.assertRaises(NoAdviser, Store, chip, 1, wrong)
        Store(chip, 9, {})
        Store(chip, 1, {0: 1, "a": None, ("write", 0): [], None: {}})

    def test_each_in_its_turn(self):
        chip = Chip(1, 2, 1)
        store = Store(chip, 2, "first")
        store.put(0, (1,), 0, 0)
        before = slowchip.seen(chip)
        for wrong in WRONG_KEYS:
            with self.subTest(wrong):
                self.assertRaises(NoKey, store.get, wrong)
                self.assertRaises(NoKey, store.put, wrong, (1,), 0, 0)
                self.assertRaises(NoKey, store.put, wrong, None, None, None)
        for wrong in NO_VALUES:
            with self.subTest(wrong):
                self.assertRaises(NoValue, store.put, 0, wrong, 0, 0)
                self.assertRaises(NoValue, store.put, 0, wrong, None, None)
        for wrong in NO_LOSSES:
            with self.subTest(wrong):
                self.assert_part("fails", store.put, 0, (1,), wrong, 0)
                self.assert_part("fails", store.put, 0, (1,), wrong, wrong)
                self.assert_part("cuts", store.put, 0, (1,), 0, wrong)
                self.assert_part("fails", store.stand, wrong, wrong)
                self.assert_part("cuts", store.stand, 9, wrong)
        self.assertEqual(slowchip.seen(chip), before)
        self.assertEqual(store.get(0), (1,))


class Serves(unittest.TestCase):

    def test_no_items(self):
        store = Store(Chip(1, 1, 1), 1, "first")
        self.assertEqual(store.serves([], 0, 0), (0, store))
        self.assertIs(store.serves([], 3, 3)[1], store)

    def test_what_put_raises_goes_on(self):
        store = Store(Chip(2, 6, 1), 2, "first")
        for wrong in WRONG_KEYS:
            self.assertRaises(NoKey, store.serves, [(0, (1,)), (wrong, (1,))], 0, 0)
        for wrong in NO_VALUES:
            store = Store(Chip(1, 2, 1), 2, "first")
            self.assertRaises(NoValue, store.serves, [(0, (1,)), (1, wrong), (0, (5,))], 0, 0)
            self.assertEqual(store.get(0), (1,))
        for wrong in NO_LOSSES:
            for part, losses in [("fails", (wrong, None)), ("cuts", (0, wrong))]:
                with self.assertRaises(NoStand) as caught:
                    store.serves([(0, (1,))], *losses)
                self.assertEqual(caught.exception.part, part)

    def test_it_ends_at_the_first_unserved(self):
        store = Store(Chip(1, 2, 0), 2, "first")
        served, same = store.serves([(0, (1,)), (1, (2,)), (0, (3,)), (1, (4,))], 0, 0)
        self.assertEqual(served, 2)
        self.assertIs(same, store)
        self.assertEqual([store.get(0), store.get(1)], [(1,), (2,)])

    def test_losses(self):
        chip = Chip(3, 4, 1)
        store = Store(chip, 1, "first")
        chip.tell(["done", ("cut", (1,)), "bad", "done", ("late",)])
        rows = [(0, (value,)) for value in range(1, 6)]
        served, other = store.serves(rows, 1, 1)
        self.assertEqual(served, 3)
        self.assertIsNot(other, store)
        self.assertRaises(IsOver, store.get, 0)
        self.assertEqual(other.get(0), (5,))
        self.assertEqual(other.stand(0, 0), Stand(1, [(None, ("old",) * 4), (1, ("old", "old", 0, "free")),
                                                      (1, ("free",) * 4)], 0, 0))

    def test_fails_and_cuts_are_one_less_but_at_least_0(self):
        # Each put is written to the block of its own, but only for just these fails and cuts.
        def shape(many, fails, cuts):
            rows = [(None, ("old",)) if b in many else (0, ("free",)) for b in range(4)]
            return (1, tuple(rows), fails, cuts, 0)
        torn = (1, ((None, ("old",)), (0, ("old",)), (0, ("free",)), (0, ("free",))), 0, 0, 0)
        twice = (1, ((None, ("old",)), (0, ("old",)), (0, ("old",)), (0, ("free",))), 0, 0, 0)
        book = {shape([], 1, 1): ("write", 0), shape([0], 0, 1): ("write", 1), torn: ("write", 2), twice: ("write", 3)}
        chip = Chip(4, 1, 0)
        chip.tell(["bad", ("cut", ()), ("cut", ())])
        served, other = Store(chip, 1, book).serves([(0, (1,)), (0, (2,)), (0, (3,))], 1, 1)
        self.assertEqual((served, other.get(0)), (1, (3,)))

    def test_the_next_puts_are_asked_with_what_is_left(self):
        rows = [["free"] * 5]
        book, chip = {}, Chip(1, 5, 0)
        for cuts in (3, 2, 1):
            book[(1, ((0, tuple(rows[-1])),), 2, cuts, 0)] = ("write", 0)
            rows.append(["old"] * len(rows) + ["free"] * (5 - len(rows)))
        chip.tell([("cut", ())] * 2)
        served, other = Store(chip, 1, book).serves([(0, (1,))] * 4, 2, 3)
        self.assertEqual((served, chip.told(), other.get(0)), (1, [], (1,)))
        self.assertEqual(other.stand(0, 0), Stand(1, [(0, ("old", "old", 0, "free", "free"))], 0, 0))

    def test_a_loss_behind_which_the_next_one_is_put(self):
        chip = Chip(1, 4, 0)
        chip.tell([("cut", (0,)), ("late",), "done"])
        served, other = Store(chip, 3, "first").serves([(0, (1,)), (1, (2,)), (2, (3,))], 0, 2)
        self.assertEqual(served, 1)
        self.assertEqual([other.get(key) for key in range(3)], [None, (2,), (3,)])


class AgainstAModel(unittest.TestCase):

    def advisers(self, rng, chip, keys, fails, cuts):
        shape = stand_seen(chip, keys, fails, cuts).shape()
        return list(WORDS) + [some_book(rng, shape, 400)]

    def test_puts(self):
        rng = random.Random(281)
        ends = {}
        for _ in range(150):
            first, first_model = twins(rng)
            keys, fails, cuts = rng.randint(1, 4), rng.choice([0, 0, 1, 2]), rng.choice([0, 0, 1, 2])
            for adviser in self.advisers(rng, first, keys, fails, cuts):
                chip = first.copy()
                model = {"left": list(first_model["left"]), "pages": [list(row) for row in first_model["pages"]], "told": []}
                for end in self.run_puts(rng, Store(chip, keys, adviser), chip, model, (keys, adviser, fails, cuts)):
                    ends[end] = ends.get(end, 0) + 1
        self.assertGreater(min(ends[None], ends["Unserved"], ends["PowerLost"]), 150, ends)

    def run_puts(self, rng, store, chip, model, told):
        keys, adviser, fails, cuts = told
        ends = []
        for _ in range(rng.randint(1, 8)):
            tell(chip, model, [rng.choice(["done"] * 6 + ["bad", "cut", "late"]) for _ in range(4)])
            key, value = rng.randrange(keys), some_value(rng)
            end, acts, left = slowchip.put(model, keys, adviser, key, value, fails, cuts)
            ends.append(end)
            if end is None:
                self.assertEqual(store.put(key, value, fails, cuts), acts)
            else:
                self.assertRaises({"Unserved": Unserved, "PowerLost": PowerLost}[end], store.put, key, value, fails, cuts)
            fails = left
            if end == "PowerLost":
                self.assertRaises(IsOver, store.get, key)
                store, cuts = Store(chip, keys, adviser), max(0, cuts - 1)
            self.assertEqual(slowchip.seen(chip), model)
            self.assertEqual(store.stand(fails, cuts).shape(), slowchip.shape_seen(model, keys, fails, cuts))
            seen = slowchip.looked(model, keys)
            for other in range(keys):
                self.assertEqual(store.get(other), seen[other][3] if other in seen else None)
        return ends

    def test_serves(self):
        rng = random.Random(282)
        ends = {}
        for _ in range(200):
            chip, model = twins(rng)
            keys, fails, cuts = rng.randint(1, 4), rng.choice([0, 1, 2]), rng.choice([0, 1, 2])
            adviser = rng.choice(self.advisers(rng, chip, keys, fails, cuts))
            tell(chip, model, [rng.choice(["done"] * 8 + ["bad", "cut", "late"]) for _ in range(20)])
            rows = [(rng.randrange(keys), some_value(rng)) for _ in range(rng.randint(0, 8))]
            store = Store(chip, keys, adviser)
            served, other = store.serves(rows, fails, cuts)
            self.assertEqual(served, slowchip.serves(model, keys, adviser, rows, fails, cuts))
            self.assertEqual(slowchip.seen(chip), model)
            self.assertEqual(other.stand(0, 0).shape(), slowchip.shape_seen(model, keys, 0, 0))
            ends[other is store] = ends.get(other is store, 0) + 1
            if other is not store:
                self.assertRaises(IsOver, store.get, 0)
        self.assertGreater(min(ends.values()), 20, ends)


if __name__ == "__main__":
    unittest.main()
