"""[27]: what is seen when a chip is looked through."""

import random
import unittest

from spentblocks.chips import Chip
from spentblocks.errors import NoKeys, NoStand, PowerLost, WentBad
from spentblocks.records import record
from spentblocks.stands import Stand
from spentblocks.stores import looked, stand_seen
from tests import slowchip

NO_KEYS = [None, True, False, 0, -1, 10, 10 ** 29, "", "1", (), [1], {}, Stand(1, [(0, (0,))], 0, 0)]
NO_LOSSES = [None, True, False, -1, 10, 10 ** 29, "", "1", (), [1], {}]


NUMBERS = (1, 2, 3, 255, 256, 65536, 2 ** 32 - 1)


def some_chip(rng, numbers=NUMBERS):
    """A chip at random, with records of all keys, other contents, bad blocks and torn pages; and its model."""
    size = (rng.randint(1, 9), rng.randint(1, 6), rng.choice([0, 1, 2, 99, "ever"]))
    chip, model = Chip(*size), slowchip.chip(*size)
    for _ in range(rng.randint(0, 50)):
        word = rng.choice(["done"] * 12 + ["bad", "cut", "late"])
        told = [slowchip.told_reply(word, (rng.randrange(256),) * rng.randrange(5))]
        b, erase = rng.randrange(size[0]), rng.random() < 0.1
        content = record(rng.randrange(9), rng.choice(numbers), (rng.randrange(256),))
        if rng.random() < 0.2:
            content = rng.choice([(), (165,), content[:-1], content + (0,), content[:1] + (9,) + content[2:]])
        chip.tell(told)
        model["told"] = told
        if slowchip.act(model, b, content, erase) != slowchip.played(chip, b, content, erase):
            raise AssertionError((b, content, erase))
    return chip, model


class Looked(unittest.TestCase):

    def test_by_hand(self):
        chip = Chip(3, 3, "ever")
        self.assertEqual(looked(chip, 9), {})
        for b, key, number, value in [(0, 0, 5, (1,)), (0, 1, 9, (2,)), (1, 0, 7, (3,)), (1, 1, 9, (4,)), (2, 0, 6, (5,)),
                                      (2, 8, 2 ** 32 - 1, ()), (1, 3, 1, (6,))]:
            chip.write(b, record(key, number, value))
        # Of the equal numbers of key 1 the least place counts.
        seen = {0: (1, 0, 7, (3,)), 1: (0, 1, 9, (2,)), 3: (1, 2, 1, (6,)), 8: (2, 1, 2 ** 32 - 1, ())}
        for keys in range(1, 10):
            self.assertEqual(looked(chip, keys), {key: seen[key] for key in seen if key < keys})

    def test_equal_numbers_in_one_block(self):
        chip = Chip(1, 3, 0)
        for value in ((1,), (2,), (3,)):
            chip.write(0, record(4, 2, value))
        self.assertEqual(looked(chip, 5), {4: (0, 0, 2, (1,))})

    def test_records_on_bad_blocks(self):
        chip = Chip(2, 3, 1)
        chip.write(0, record(0, 3, (1,)))
        chip.write(1, record(0, 2, (2,)))
        chip.tell(["bad"])
        self.assertRaises(WentBad, chip.erase, 0)
        self.assertEqual(looked(chip, 1), {0: (0, 0, 3, (1,))})
        self.assertEqual(stand_seen(chip, 1, 0, 0), Stand(1, [(None, (0, "old", "old")), (1, ("old", "free", "free"))], 0, 0))

    def test_contents_that_are_no_records(self):
        chip = Chip(1, 4, 1)
        right = record(0, 3, (1,))
        for content in [(), right[:-1], right[:-1] + ((right[-1] + 1) % 256,), right + (0,)]:
            chip.write(0, content)
        self.assertEqual(looked(chip, 9), {})
        self.assertEqual(stand_seen(chip, 9, 3, 4), Stand(9, [(1, ("old",) * 4)], 3, 4))

    def test_torn_pages_and_late_ones(self):
        chip = Chip(2, 2, 1)
        chip.tell([("cut", (1, 2)), ("late",)])
        self.assertRaises(PowerLost, chip.write, 0, record(0, 1, ()))
        self.assertRaises(PowerLost, chip.write, 0, record(1, 2, (7,)))
        self.assertEqual(looked(chip, 2), {1: (0, 1, 2, (7,))})
        self.assertEqual(stand_seen(chip, 2, 0, 0).shape(), (2, ((1, ("old", 1)), (1, ("free", "free"))), 0, 0, None))

    def test_the_dict_is_new(self):
        chip = Chip(1, 1, 1)
        chip.write(0, record(0, 1, (1,)))
        looked(chip, 1).clear()
        self.assertEqual(looked(chip, 1), {0: (0, 0, 1, (1,))})

    def test_against_a_model(self):
        rng = random.Random(271)
        found = {}
        for _ in range(300):
            chip, model = some_chip(rng)
            for keys in (1, rng.randint(1, 9), 9):
                self.assertEqual(looked(chip, keys), slowchip.looked(model, keys))
                fails, cuts = rng.randint(0, 9), rng.randint(0, 9)
                stand = stand_seen(chip, keys, fails, cuts)
                self.assertEqual(stand.shape(), slowchip.shape_seen(model, keys, fails, cuts))
                for left, pages in stand.blocks():
                    found[left is None] = found.get(left is None, 0) + 1
            self.assertEqual(slowchip.seen(chip)["pages"], model["pages"])
        self.assertGreater(found[True], 200)


class Wrong(unittest.TestCase):

    def test_no_keys(self):
        chip = Chip(1, 1, 1)
        for wrong in NO_KEYS:
            with self.subTest(wrong):
                self.assertRaises(NoKeys, looked, chip, wrong)
                self.assertRaises(NoKeys, stand_seen, chip, wrong, 0, 0)
                self.assertRaises(NoKeys, stand_seen, chip, wrong, None, -1)

    def test_no_stand(self):
        chip = Chip(1, 1, 1)
        for wrong in NO_LOSSES:
            for part, losses in [("fails", (wrong, 0)), ("fails", (wrong, None)), ("cuts", (0, wrong)), ("cuts", (9, wrong))]:
                with self.subTest(losses):
                    with self.assertRaises(NoStand) as caught:
                        stand_seen(chip, 1, *losses)
                    self.assertEqual(caught.exception.part, part)


if __name__ == "__main__":
    unittest.main()
