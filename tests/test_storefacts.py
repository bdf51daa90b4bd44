"""[29]: what holds of a store, whatever fails."""

import itertools
import random
import unittest

from spentblocks.chips import Chip
from spentblocks.errors import PowerLost, Unserved
from spentblocks.lives import life, plan
from spentblocks.stands import fresh
from spentblocks.stores import Store, looked, stand_seen
from tests import slow, slowchip, slowmore

SIZES = [(1, 2, 1, 3), (2, 2, 2, 2), (2, 3, 1, "ever"), (3, 3, 2, 1), (2, 4, 2, 2)]
POLICIES = ("first", "greedy", "even")


def items(keys, many):
    """So many puts, each with a value that no other one has."""
    return [(count * count % keys, (count, keys)) for count in range(many)]


class Watch:
    """Follows a store by the letter of [8] and [29]: the shape of the stand, and the values that a key may have."""

    def __init__(self, case, chip, keys, policy, fails, cuts):
        self.case = case
        self.chip, self.keys, self.policy = chip, keys, policy
        self.store = Store(chip, keys, policy)
        self.shape = stand_seen(chip, keys, fails, cuts).shape()
        self.values = {key: [None] for key in range(keys)}
        self.served = 0

    def put(self, key, value, words):
        """A put with these replies to its acts ("done" behind them); returns the number of the acts, None if it ends."""
        self.chip.tell([slowchip.told_reply(word) for word in words])
        _, _, fails, cuts, _ = self.shape
        many = self.follow(key, words)
        try:
            made = self.store.put(key, value, fails, cuts)
            self.case.assertEqual(many, len(made))
            self.values[key] = [value]
            self.served += 1
        except PowerLost:
            self.store = Store(self.chip, self.keys, self.policy)
            self.values[key].append(value)
        except Unserved:
            many = None
        self.look()
        return many

    def follow(self, key, words):
        """The shape behind the acts of the policy and these replies; returns how many acts there are."""
        self.shape = self.shape[:4] + (key,)
        seen, many = [], 0
        while self.shape[4] is not None:
            act = slowmore.policy_act(self.shape, self.policy)
            if act is None or self.shape in seen:
                self.shape = self.shape[:4] + (None,)
                break
            seen.append(self.shape)
            self.shape = slowchip.shape_after(self.shape, act, words[many] if many < len(words) else "done")
            many += 1
        return many

    def look(self):
        """The stand and the values that are seen are those that have to be."""
        fails, cuts = self.shape[2:4]
        self.case.assertEqual(self.store.stand(fails, cuts).shape(), self.shape)
        self.case.assertEqual(stand_seen(self.chip, self.keys, fails, cuts).shape(), self.shape)
        seen = looked(self.chip, self.keys)
        for key in range(self.keys):
            value = self.store.get(key)
            self.case.assertIn(value, self.values[key])
            self.case.assertEqual(value, seen[key][3] if key in seen else None)
            # A put that was under way is there or it is not; what is seen once stays.
            self.values[key] = [value]


class Losses(unittest.TestCase):

    def acts_of(self, size, policy, rows, fails, cuts):
        """How many acts the rows take, with "done" throughout; None once a put is not served."""
        watch = Watch(self, Chip(*size[1:]), size[0], policy, fails, cuts)
        return [watch.put(key, value, []) for key, value in rows]

    def run_with(self, size, policy, rows, losses):
        """All rows, with replies at some acts, a dict (index of the put, index of its act) -> word."""
        words = list(losses.values())
        fails, cuts = words.count("bad"), len(words) - words.count("bad")
        watch = Watch(self, Chip(*size[1:]), size[0], policy, fails, cuts)
        for at, (key, value) in enumerate(rows):
            mine = {act: word for (put, act), word in losses.items() if put == at}
            # Told as long as there are losses: behind one of them a put may go another way.
            watch.put(key, value, [mine.get(act, "done") for act in range(max(mine, default=-1) + 1)])

    def test_a_loss_within_and_behind_each_act(self):
        runs = 0
        for size in SIZES:
            rows = items(size[0], 9)
            for policy in POLICIES:
                many = self.acts_of(size, policy, rows, 1, 1)
                for at, acts in enumerate(many):
                    for act in range(acts or 1):
                        for word in ("bad", "cut", "late"):
                            with self.subTest(size=size, policy=policy, put=at, act=act, word=word):
                                self.run_with(size, policy, rows, {(at, act): word})
                                runs += 1
        self.assertGreater(runs, 500)

    def test_two_losses(self):
        rng = random.Random(291)
        for _ in range(400):
            size = rng.choice(SIZES)
            rows = items(size[0], 9)
            places = [(rng.randrange(9), rng.randrange(3)) for _ in range(rng.randint(2, 4))]
            self.run_with(size, rng.choice(POLICIES), rows, {place: rng.choice(["bad", "cut", "late"]) for place in places})

    def test_a_put_under_way_is_there_behind_a_late_reply_alone(self):
        for word, value in [("cut", (1,)), ("late", (2,))]:
            chip = Chip(2, 2, 1)
            watch = Watch(self, chip, 1, "first", 0, 1)
            watch.put(0, (1,), [])
            watch.put(0, (2,), [word])
            self.assertEqual(watch.store.get(0), value)


def book_of(thing):
    """The acts of a plan, as a book."""
    return {shape: act for shape, (promise, rank, act) in thing.items() if act is not None}


class PlansPlayed(unittest.TestCase):

    def serve(self, book, size, fails, cuts, keys, words):
        """How many puts the book of a plan serves; each put takes its replies from the words, while they are let."""
        watch = Watch(self, Chip(*size[1:]), size[0], book, fails, cuts)
        rest = list(words)
        for count, key in enumerate(keys):
            let = self.let(rest, watch.shape[2], watch.shape[3])
            many = watch.put(key, (count % 256, count // 256), let)
            if many is None:
                break
            rest = rest[many:]
        return watch.served

    def let(self, words, fails, cuts):
        """The words up to the one with which a put surely ends, each taken as "done" if it is not let."""
        found = []
        for word in words:
            if word == "bad" and fails > 0:
                fails -= 1
            elif word not in ("cut", "late") or cuts == 0:
                word = "done"
            found.append(word)
            if word in ("cut", "late"):
                break
        return found

    def test_each_way_to_lose_is_served(self):
        for size, fails, cuts in [((1, 2, 1, 1), 0, 1), ((1, 3, 1, 1), 1, 0), ((1, 3, 1, 1), 1, 1), ((2, 3, 1, 1), 0, 1),
                                  ((1, 2, 2, 1), 1, 1)]:
            least = life(fresh(*size, fails, cuts))
            book = book_of(plan(fresh(*size, fails, cuts)))
            self.assertGreater(least, 0)
            for keys in itertools.product(range(size[0]), repeat=least + cuts):
                for words in itertools.product(("done", "bad", "cut", "late"), repeat=4):
                    self.assertGreaterEqual(self.serve(book, size, fails, cuts, keys, words), least)

    def test_random_ways(self):
        rng = random.Random(292)
        for size, fails, cuts in [((2, 3, 2, 1), 0, 1), ((2, 4, 1, 1), 1, 0), ((1, 3, 2, 2), 1, 1), ((2, 3, 2, 1), 1, 0)]:
            stand = fresh(*size, fails, cuts)
            least, book = life(stand, most=100000), book_of(plan(stand, most=100000))
            self.assertGreater(least, 0)
            for _ in range(12):
                keys = [rng.randrange(size[0]) for _ in range(least + cuts)]
                words = [rng.choice(["done"] * 9 + ["bad", "cut", "late"]) for _ in range(3 * least)]
                self.assertGreaterEqual(self.serve(book, size, fails, cuts, keys, words), least)

    def test_for_ever(self):
        rng = random.Random(293)
        for size, fails in [((1, 2, 1, "ever"), 0), ((2, 2, 2, "ever"), 0), ((1, 3, 1, "ever"), 1)]:
            stand = fresh(*size, fails, 0)
            self.assertIsNone(life(stand))
            keys = [rng.randrange(size[0]) for _ in range(150)]
            words = ["done"] * rng.randrange(30) + ["bad"]
            self.assertEqual(self.serve(book_of(plan(stand)), size, fails, 0, keys, words), 150)

    def test_serves_does_so_at_once(self):
        stand = fresh(2, 3, 1, 2, 0, 1)
        least, book = life(stand), book_of(plan(stand))
        rng = random.Random(294)
        for at in range(12):
            chip = Chip(3, 1, 2)
            chip.tell(["done"] * at + [rng.choice([("cut", ()), ("late",)])])
            rows = [(rng.randrange(2), (count,)) for count in range(least + 1)]
            served, store = Store(chip, 2, book).serves(rows, 0, 1)
            self.assertGreaterEqual(served, least)
            self.assertEqual(store.stand(0, 0), stand_seen(chip, 2, 0, 0))


if __name__ == "__main__":
    unittest.main()
