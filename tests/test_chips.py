"""[25]: the chip."""

import random
import unittest

from spentblocks.chips import Chip
from spentblocks.errors import NoChip, NoContent, NoPlace, NoReplies, NoRoom, NotGood, PowerLost, WentBad
from spentblocks.stands import Stand
from tests import slowchip

STAND = Stand(1, [(0, (0,))], 0, 0)
ODD = [None, True, False, "", "0", "done", (), [], [0], (0,), {}, STAND]
NO_SIZES = ODD + [0, -1, 10, 10 ** 29]
NO_BLOCKS = ODD + [-1, 3, 9, 10 ** 29, -10 ** 29]
NO_LEFTS = [None, True, False, -1, 100, 10 ** 29, "", "0", "Ever", "ever ", "bad", (), [0], ("ever",), {}, STAND]
FULL = (255,) * 60
NO_CONTENTS = [None, True, 0, 255, "", "ab", [], [1], {}, STAND, FULL + (0,), (256,), (-1,), (True,), (0, False), (None,),
               ("1",), ((1,),), ([1],), (10 ** 29,)]
NO_REPLIES = [None, True, 0, "done", "", (), ("done",), {}, {"done": 1}, STAND, [None], [True], [0], [""], ["cut"], ["late"],
              ["Done"], ["good"], [["done"]], [("done",)], [("bad",)], [["late"]], [("late", ())], [("late", 0)], [()],
              [("cut",)], [("cut", 0)], [("cut", None)], [("cut", [1])], [("cut", (256,))], [("cut", (-1,))],
              [("cut", (True,))], [("cut", FULL + (1,))], [("cut", (1,), (1,))], [["cut", (1,)]], [("torn", (1,))],
              [("cut", ("1",))], [STAND], ["done", "bad", "other"], [("late",), ("cut", (1, 2, 300))]]


class Anew(unittest.TestCase):

    def test_every_size_and_left(self):
        for blocks in range(1, 10):
            for pages in range(1, 7):
                for left in (0, 1, 99, "ever"):
                    with self.subTest(blocks=blocks, pages=pages, left=left):
                        chip = Chip(blocks, pages, left)
                        self.assertEqual(chip.size(), (blocks, pages))
                        self.assertEqual(slowchip.seen(chip), slowchip.chip(blocks, pages, left))
                        self.assertRaises(NoPlace, chip.left, blocks)
                        self.assertRaises(NoPlace, chip.read, blocks - 1, pages)

    def test_no_chip(self):
        for wrong in NO_SIZES:
            with self.subTest(wrong):
                self.assertRaises(NoChip, Chip, wrong, 1, 0)
                self.assertRaises(NoChip, Chip, wrong, None, None)
                self.assertRaises(NoChip, Chip, 1, wrong, 0)
        self.assertRaises(NoChip, Chip, 1, 7, 0)
        self.assertRaises(NoChip, Chip, 9, 9, "ever")
        for wrong in NO_LEFTS:
            with self.subTest(wrong):
                self.assertRaises(NoChip, Chip, 1, 1, wrong)


class Acts(unittest.TestCase):

    def test_a_write_fills_the_first_free_page_and_no_other(self):
        chip = Chip(3, 4, 2)
        for count in range(4):
            self.assertIsNone(chip.write(1, (count,)))
            row = [(n,) if n <= count else None for n in range(4)]
            self.assertEqual(slowchip.seen(chip)["pages"], [[None] * 4, row, [None] * 4])
        self.assertRaises(NoRoom, chip.write, 1, (9,))

    def test_contents_of_every_length(self):
        for many in range(61):
            chip = Chip(1, 1, 0)
            content = tuple(range(256 - many, 256))
            chip.write(0, content)
            self.assertEqual(chip.read(0, 0), content)

    def test_an_erase_frees_all_pages_and_takes_one_from_a_number(self):
        for left, behind in [(1, 0), (2, 1), (99, 98), ("ever", "ever")]:
            for many in range(4):
                chip = Chip(2, 3, left)
                chip.write(1, (7,))
                for _ in range(many):
                    chip.write(0, ())
                self.assertIsNone(chip.erase(0))
                model = {"left": [behind, left], "pages": [[None] * 3, [(7,), None, None]], "told": []}
                self.assertEqual(slowchip.seen(chip), model)

    def test_for_ever(self):
        chip = Chip(1, 1, "ever")
        for count in range(300):
            chip.write(0, (count % 256,))
            chip.erase(0)
        self.assertEqual(slowchip.seen(chip), slowchip.chip(1, 1, "ever"))

    def test_till_nothing_is_left(self):
        chip = Chip(1, 2, 3)
        for left in (2, 1, 0):
            chip.erase(0)
            self.assertEqual(chip.left(0), left)
        self.assertRaises(NoRoom, chip.erase, 0)
        chip.write(0, (1,))
        self.assertRaises(NoRoom, chip.erase, 0)
        self.assertEqual(chip.read(0, 0), (1,))


class Refused(unittest.TestCase):

    def assert_refused(self, chip, error, call, *arguments):
        before = slowchip.seen(chip)
        self.assertRaises(error, call, *arguments)
        self.assertEqual(slowchip.seen(chip), before)

    def bad_chip(self):
        """Block 0 is bad, block 1 full and worn out, block 2 free; replies are told."""
        chip = Chip(3, 2, 1)
        chip.tell(["bad"])
        with self.assertRaises(WentBad):
            chip.write(0, (5,))
        chip.erase(1)
        chip.write(1, (1,))
        chip.write(1, (2,))
        chip.tell(["bad", ("late",), ("cut", (3,))])
        return chip

    def test_no_place(self):
        chip = self.bad_chip()
        for wrong in NO_BLOCKS:
            with self.subTest(wrong):
                self.assert_refused(chip, NoPlace, chip.left, wrong)
                self.assert_refused(chip, NoPlace, chip.read, wrong, 0)
                self.assert_refused(chip, NoPlace, chip.read, wrong, None)
                self.assert_refused(chip, NoPlace, chip.read, 0, wrong)
                self.assert_refused(chip, NoPlace, chip.write, wrong, (1,))
                self.assert_refused(chip, NoPlace, chip.write, wrong, None)
                self.assert_refused(chip, NoPlace, chip.erase, wrong)
        self.assert_refused(chip, NoPlace, chip.read, 0, 2)

    def test_not_good_is_ahead_of_the_content(self):
        chip = self.bad_chip()
        for content in [(1,)] + NO_CONTENTS:
            self.assert_refused(chip, NotGood, chip.write, 0, content)
        self.assert_refused(chip, NotGood, chip.erase, 0)

    def test_no_content_is_ahead_of_the_room(self):
        chip = self.bad_chip()
        for content in NO_CONTENTS:
            with self.subTest(content):
                self.assert_refused(chip, NoContent, chip.write, 1, content)
                self.assert_refused(chip, NoContent, chip.write, 2, content)

    def test_no_room(self):
        chip = self.bad_chip()
        self.assert_refused(chip, NoRoom, chip.write, 1, (1,))
        self.assert_refused(chip, NoRoom, chip.write, 1, ())
        self.assert_refused(chip, NoRoom, chip.erase, 1)

    def test_no_replies(self):
        for wrong in NO_REPLIES:
            with self.subTest(wrong):
                chip = self.bad_chip()
                self.assert_refused(chip, NoReplies, chip.tell, wrong)


class Replies(unittest.TestCase):

    def chip(self, reply, left=2):
        chip = Chip(2, 3, left)
        chip.write(1, (8,))
        chip.write(0, (4,))
        chip.tell([reply, "bad"])
        return chip

    def assert_is(self, chip, left, pages):
        self.assertEqual(slowchip.seen(chip)["left"], left)
        self.assertEqual(slowchip.seen(chip)["pages"], [pages, [(8,), None, None]])
        self.assertEqual(chip.told(), ["bad"])

    def test_done(self):
        chip = self.chip("done")
        self.assertIsNone(chip.write(0, (5,)))
        self.assert_is(chip, [2, 2], [(4,), (5,), None])
        chip = self.chip("done")
        self.assertIsNone(chip.erase(0))
        self.assert_is(chip, [1, 2], [None] * 3)

    def test_bad(self):
        for erase in (False, True):
            chip = self.chip("bad")
            with self.assertRaises(WentBad) as caught:
                chip.erase(0) if erase else chip.write(0, (5,))
            self.assertEqual(caught.exception.block, 0)
            self.assert_is(chip, [None, 2], [(4,), (), ()])
            self.assertRaises(NotGood, chip.write, 0, (1,))
            self.assertRaises(NotGood, chip.erase, 0)
            with self.assertRaises(WentBad) as caught:
                chip.write(1, (1,))
            self.assertEqual(caught.exception.block, 1)

    def test_cut(self):
        for noise in ((), (1, 2, 3), FULL):
            for left, less in ((2, 1), ("ever", "ever"), (99, 98)):
                chip = self.chip(("cut", noise), left)
                self.assertRaises(PowerLost, chip.write, 0, (5,))
                self.assert_is(chip, [left, left], [(4,), noise, None])
                chip = self.chip(("cut", noise), left)
                self.assertRaises(PowerLost, chip.erase, 0)
                self.assert_is(chip, [less, left], [noise] * 3)

    def test_late(self):
        for left, less in ((2, 1), ("ever", "ever")):
            chip = self.chip(("late",), left)
            self.assertRaises(PowerLost, chip.write, 0, (5,))
            self.assert_is(chip, [left, left], [(4,), (5,), None])
            chip = self.chip(("late",), left)
            self.assertRaises(PowerLost, chip.erase, 0)
            self.assert_is(chip, [less, left], [None] * 3)

    def test_told_ones_are_used_up_and_then_done(self):
        chip = Chip(1, 6, 5)
        replies = ["done", ("cut", (1,)), ("late",)]
        self.assertIsNone(chip.tell(replies))
        self.assertEqual(chip.told(), replies)
        chip.write(0, (9,))
        self.assertEqual(chip.told(), [("cut", (1,)), ("late",)])
        self.assertRaises(PowerLost, chip.write, 0, (9,))
        self.assertEqual(chip.told(), [("late",)])
        self.assertRaises(PowerLost, chip.erase, 0)
        self.assertEqual(chip.told(), [])
        chip.write(0, (2,))
        chip.erase(0)
        self.assertEqual(slowchip.seen(chip), {"left": [3], "pages": [[None] * 6], "told": []})

    def test_told_anew_instead_of_those_before(self):
        chip = Chip(1, 2, 5)
        chip.tell(["bad", "bad"])
        chip.tell([("late",)])
        self.assertEqual(chip.told(), [("late",)])
        chip.tell([])
        self.assertEqual(chip.told(), [])
        chip.write(0, ())
        self.assertEqual(chip.read(0, 0), ())

    def test_lists_may_be_changed(self):
        chip = Chip(1, 2, 5)
        replies = ["bad"]
        chip.tell(replies)
        replies.append("done")
        self.assertEqual(chip.told(), ["bad"])
        chip.told().clear()
        self.assertEqual(chip.told(), ["bad"])

    def test_against_a_model(self):
        rng = random.Random(251)
        ends = {}
        for _ in range(300):
            size = (rng.randint(1, 9), rng.randint(1, 6), rng.choice([0, 1, 2, 99, "ever"]))
            chip, model = Chip(*size), slowchip.chip(*size)
            for _ in range(rng.randint(0, 40)):
                if rng.random() < 0.15:
                    words = [rng.choice(slowchip.WORDS) for _ in range(rng.randint(0, 4))]
                    told = [slowchip.told_reply(word, (rng.randrange(256),) * rng.randrange(4)) for word in words]
                    chip.tell(told)
                    model["told"] = list(told)
                b, erase = rng.randrange(-1, size[0] + 1), rng.random() < 0.4
                content = rng.choice([(1,), (2, 3), (), FULL, None, [1]])
                end = slowchip.act(model, b, content, erase)
                self.assertEqual(slowchip.played(chip, b, content, erase), end)
                self.assertEqual(slowchip.seen(chip), model)
                ends[str(end)[:9]] = ends.get(str(end)[:9], 0) + 1
        self.assertGreater(min(ends.values()), 100, ends)
        self.assertEqual(len(ends), 7, ends)


class Copies(unittest.TestCase):

    def test_they_are_the_same_and_go_on_apart(self):
        chip = Chip(2, 2, 3)
        chip.write(0, (1,))
        chip.tell(["bad", ("late",)])
        with self.assertRaises(WentBad):
            chip.write(1, (2,))
        first = slowchip.seen(chip)
        other = chip.copy()
        third = other.copy()
        self.assertEqual([slowchip.seen(other), slowchip.seen(third)], [first, first])
        self.assertEqual(other.size(), (2, 2))
        self.assertRaises(PowerLost, other.erase, 0)
        self.assertEqual(slowchip.seen(other), {"left": [2, None], "pages": [[None, None], [(), ()]], "told": []})
        self.assertEqual([slowchip.seen(chip), slowchip.seen(third)], [first, first])
        chip.tell(["done"])
        chip.write(0, (7,))
        self.assertEqual(slowchip.seen(third), first)
        self.assertRaises(PowerLost, third.write, 0, (3,))
        self.assertEqual(chip.read(0, 1), (7,))
        self.assertEqual(other.read(0, 1), None)
        self.assertEqual(third.read(0, 1), (3,))

    def test_lefts_unlike(self):
        chip = Chip(3, 1, 5)
        chip.erase(1)
        chip.erase(2)
        chip.erase(2)
        self.assertEqual([chip.copy().left(b) for b in range(3)], [5, 4, 3])


if __name__ == "__main__":
    unittest.main()
