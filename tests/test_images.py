"""[32]: images of chips."""

import random
import unittest

from spentblocks.chips import Chip
from spentblocks.errors import NoText, PowerLost, WentBad
from spentblocks.images import image_text, read_image
from spentblocks.records import record
from spentblocks.stands import Stand
from spentblocks.stores import Store, looked
from tests import slowchip
from tests.test_looks import some_chip

NO_STRINGS = [None, True, False, 0, 10 ** 29, (), ("chip 1 1",), ["chip 1 1"], [], {}, Stand(1, [(0, (0,))], 0, 0), Chip(1, 1, 0)]
NO_NUMBERS = ["", "-1", "+1", "-0", "00", "01", "007", "1000", "0001", "1.0", "one", "1x", "x1", "None", "free", "9" * 30]
# Block 0 has two pages that are not free, block 1 none, block 2 is bad.
RIGHT = "chip 3 3|block 5|  page 00ff|  page -|  page free|block ever|  page free|  page free|  page free|block bad|  page 0a|" \
        "  page -|  page " + "0f" * 60
LINES = RIGHT.split("|")
MODEL = {"left": [5, "ever", None], "told": [],
         "pages": [[(0, 255), (), None], [None] * 3, [(10,), (), (15,) * 60]]}


def text_by_letter(model):
    """The image by the letter of [32]."""
    rows = [f"chip {len(model['left'])} {len(model['pages'][0])}"]
    for left, pages in zip(model["left"], model["pages"]):
        rows.append("block " + ("bad" if left is None else str(left)))
        for content in pages:
            told = "free" if content is None else "".join(f"{byte:02x}" for byte in content) or "-"
            rows.append("  page " + told)
    return "\n".join(rows)


class Images(unittest.TestCase):

    def test_by_hand(self):
        chip = Chip(2, 3, 7)
        chip.write(0, (0, 9, 10, 255))
        chip.write(0, ())
        chip.tell(["bad", "done", ("late",)])
        self.assertRaises(WentBad, chip.erase, 1)
        self.assertEqual(image_text(chip), "chip 2 3\nblock 7\n  page 00090aff\n  page -\n  page free\n"
                                           "block bad\n  page -\n  page -\n  page -")
        self.assertEqual(chip.told(), ["done", ("late",)])
        self.assertEqual(image_text(Chip(1, 1, "ever")), "chip 1 1\nblock ever\n  page free")
        self.assertEqual(slowchip.seen(read_image(RIGHT.replace("|", "\n"))), MODEL)

    def test_each_size_and_left(self):
        for blocks in range(1, 10):
            for pages in range(1, 7):
                for left in (0, 1, 10, 99, "ever"):
                    model = slowchip.chip(blocks, pages, left)
                    self.assertEqual(image_text(Chip(blocks, pages, left)), text_by_letter(model))
                    self.assertEqual(slowchip.seen(read_image(text_by_letter(model))), model)

    def test_the_greatest_one(self):
        chip = Chip(9, 6, 99)
        for b in range(9):
            for p in range(6):
                chip.write(b, (16 * b + p,) * 60)
        told = image_text(chip)
        self.assertLess(len(told), 8000)
        self.assertEqual(slowchip.seen(read_image(told)), slowchip.seen(chip))

    def test_every_byte_and_length(self):
        for many in range(61):
            for low in (0, 60, 120, 180, 196):
                chip = Chip(1, 1, 0)
                chip.write(0, tuple(range(low, low + many)))
                self.assertEqual(image_text(chip), text_by_letter(slowchip.seen(chip)))
                self.assertEqual(read_image(image_text(chip)).read(0, 0), tuple(range(low, low + many)))

    def test_at_random(self):
        rng = random.Random(321)
        for _ in range(200):
            chip, model = some_chip(rng)
            chip.tell(["bad"])
            model["told"] = []
            self.assertEqual(image_text(chip), text_by_letter(model))
            self.assertEqual(slowchip.seen(read_image(image_text(chip))), model)

    def test_they_go_on_apart(self):
        told = RIGHT.replace("|", "\n")
        one, other = read_image(told), read_image(told)
        one.tell([("cut", (1,))])
        self.assertRaises(PowerLost, one.erase, 1)
        one.write(0, (3,))
        self.assertEqual(slowchip.seen(other), MODEL)
        other.erase(0)
        self.assertEqual(one.read(0, 0), (0, 255))
        self.assertEqual(other.left(0), 4)
        self.assertEqual(other.copy().left(1), "ever")

    def test_a_chip_that_is_read_goes_on_like_the_first_one(self):
        rng = random.Random(322)
        for _ in range(60):
            chip, _ = some_chip(rng, (1, 2, 255, 10 ** 9))
            chip.tell([])
            other = read_image(image_text(chip))
            told = [slowchip.told_reply(rng.choice(["done"] * 6 + ["bad", "cut", "late"])) for _ in range(20)]
            rows = [(rng.randrange(3), (count,)) for count in range(10)]
            served = []
            for one in (chip, other):
                one.tell(told)
                served.append(Store(one, 3, "even").serves(rows, 2, 2)[0])
            self.assertEqual(served[0], served[1])
            self.assertEqual(slowchip.seen(chip), slowchip.seen(other))
            self.assertEqual(looked(chip, 9), looked(other, 9))


class Wrong(unittest.TestCase):

    def assert_line(self, line, told):
        with self.subTest(told):
            with self.assertRaises(NoText) as caught:
                read_image(told.replace("|", "\n"))
            self.assertEqual(caught.exception.line, line)

    def assert_row(self, at, row):
        """This row, at its place, is wrong; whatever stands behind it does not count."""
        self.assert_line(at, "|".join(LINES[:at] + [row] + LINES[at + 1:]))
        self.assert_line(at, "|".join(LINES[:at] + [row]))
        self.assert_line(at, "|".join(LINES[:at] + [row] + ["odd"] * 20))

    def test_no_string(self):
        for wrong in NO_STRINGS:
            with self.assertRaises(NoText) as caught:
                read_image(wrong)
            self.assertEqual(caught.exception.line, -1)

    def test_lines_that_are_lacking_and_too_many(self):
        for many in range(1, len(LINES)):
            self.assert_line(many, "|".join(LINES[:many]))
        self.assert_line(0, "")
        for more in ("", "block 1", "  page free", "chip 1 1"):
            self.assert_line(len(LINES), RIGHT + "|" + more)
            self.assert_line(len(LINES), RIGHT + "|" + more + "|")

    def test_the_first_line(self):
        for row in ["", "chip", "chip ", "chip 3", "chip 3 ", "chip 3 3 ", " chip 3 3", "chip  3 3", "chip 3  3", "Chip 3 3",
                    "chip 3 3 3", "chips 3 3", "block 5", "chip 0 3", "chip 3 0", "chip 10 3", "chip 3 7", "chip 99 3",
                    "chip 3 999", "chip ever 3", "keys 3 3"]:
            self.assert_row(0, row)
        for word in NO_NUMBERS:
            self.assert_row(0, f"chip {word} 3")
            self.assert_row(0, f"chip 3 {word}")

    def test_lines_of_blocks(self):
        for at in (1, 5, 9):
            for row in ["", "block", "block ", "block 5 ", " block 5", "block  5", "Block 5", "block 5 free", "  page free",
                        "  block 5", "block 100", "block 999", "block Ever", "block BAD", "chip 3 3", "blocks 5"]:
                self.assert_row(at, row)
            for word in NO_NUMBERS:
                self.assert_row(at, f"block {word}")

    def test_lines_of_pages(self):
        for at in (2, 3, 4, 6, 7, 8, 10, 11, 12):
            for row in ["", "page free", " page free", "   page free", "  page", "  page ", "  page  free", "  page free ",
                        "  Page free", "  page Free", "  page old", "  page --", "  page 0", "  page 0ff", "  page 0A", "  page FF",
                        "  page 0g", "  page 0x0a", "  page 0a 0b", "  page 0a-", "  page +1", "  page " + "00" * 61,
                        "  page " + "0" * 121, "  page " + "0" * 119, "block 5", "  block 5", "free", "  page None", "  pages 0a"]:
                self.assert_row(at, row)

    def test_a_page_that_is_not_free_behind_a_free_one(self):
        for at in (3, 4, 7, 8):
            for row in ("  page -", "  page 00"):
                rows = LINES[:at - 1] + ["  page free", row] + LINES[at + 1:]
                self.assert_line(at, "|".join(rows))

    def test_a_free_page_in_a_bad_block(self):
        for at in (10, 11, 12):
            self.assert_row(at, "  page free")
        self.assert_line(2, "chip 1 2|block bad|  page free|  page free")

    def test_what_is_let(self):
        chip = read_image("chip 2 2\nblock 0\n  page -\n  page 00\nblock 99\n  page -\n  page free")
        self.assertEqual(slowchip.seen(chip), {"left": [0, 99], "pages": [[(), (0,)], [(), None]], "told": []})
        chip.write(1, record(0, 1, ()))
        self.assertEqual(looked(chip, 1), {0: (1, 1, 1, ())})


if __name__ == "__main__":
    unittest.main()
