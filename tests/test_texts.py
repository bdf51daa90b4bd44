"""[31]: texts of stands and of rows."""

import random
import unittest

from spentblocks.chips import Chip
from spentblocks.errors import NoRow, NoStand, NoText
from spentblocks.stands import Stand, fresh, stand_of
from spentblocks.texts import read_row, read_stand, row_text, stand_text
from tests import slow

SMALL = Stand(1, [(1, (0,)), (None, ("old",))], 0, 2, asked=0)
NO_STRINGS = [None, True, False, 0, 10 ** 29, (), ("keys 1",), ["keys 1"], [], {}, SMALL, Chip(1, 1, 0)]
# Words that are no integer of a text.
NO_NUMBERS = ["", "-1", "+1", "-0", "00", "01", "007", "1000", "0001", "1.0", "1_0", "one", "1x", "x1", "None", "True", "0x1",
              "ever", "bad", "free", "old", "(0,)", "9" * 30]
RIGHT = "keys 2|block 1 0 free|block ever old 1|block bad old old|fails 3|cuts 4|asked 1"
STAND = Stand(2, [(1, (0, "free")), ("ever", ("old", 1)), (None, ("old", "old"))], 3, 4, asked=1)
NO_ROWS = [None, True, False, 0, "", "ask 0", (), (0,), {}, SMALL]
NO_ITEMS = [None, True, False, -1, 9, 10 ** 29, "", "ask 0", (), [], {}, [0], (0,), ("ask", 0), SMALL, ("write", 1),
            ("write", 1, "done"), [("write", 1), "done"], (["write", 1], "done"), (("write", 1), "done", 0), (0, "done"),
            (("write", 1), "Done"), (("write", 1), None), (("write", 1), True), (("write", 1), ("done",)),
            (("write", 1), ["done"]), (("write", 1), ("cut", ())), (("write", 9), "done"), (("write", -1), "done"),
            (("write", True), "done"), (("write", "1"), "done"), (("write", None), "done"), (("write",), "done"),
            (("write", 1, 2), "done"), (("copy", 1), "done"), (("copy", 1, 2, 3), "done"), (("copy", 1, 9), "done"),
            (("copy", 9, 1), "done"), (("copy", False, 1), "done"), (("erase",), "done"), (("erase", 1, 2), "done"),
            (("erase", 9), "done"), (("ask", 0), "done"), (("done", 0), "done"), ((0, 1), "done"), ((), "done"),
            ((("write",), 1), "done"), ((["write"], 1), "done"), (({}, 1), "done"), (("write", (1,)), "done"), ((None, 1), "done")]


def text(told):
    return told.replace("|", "\n")


class Stands(unittest.TestCase):

    def test_by_hand(self):
        self.assertEqual(stand_text(SMALL), "keys 1\nblock 1 0\nblock bad old\nfails 0\ncuts 2\nasked 0")
        self.assertEqual(stand_text(STAND), text(RIGHT))
        self.assertEqual(read_stand(text(RIGHT)), STAND)
        self.assertEqual(stand_text(fresh(9, 1, 6, 99, 9, 9)),
                         "keys 9\nblock 99 free free free free free free\nfails 9\ncuts 9")

    def test_each_size(self):
        for keys in range(1, 10):
            for blocks in range(1, 10):
                for pages in range(1, 7):
                    for left in (0, 9, 10, 99, "ever"):
                        stand = fresh(keys, blocks, pages, left, keys, 9 - blocks)
                        self.assertEqual(read_stand(stand_text(stand)), stand)
                        self.assertEqual(read_stand(stand_text(stand.put(keys - 1))), stand.put(keys - 1))

    def test_at_random(self):
        rng = random.Random(311)
        for _ in range(400):
            shape = slow.some_shape(rng, (0, 1, 7, 10, 99, "ever", None))
            stand = stand_of(shape)
            rows = [f"keys {shape[0]}"]
            for left, pages in shape[1]:
                rows.append("block " + ("bad" if left is None else str(left)) + "".join(f" {page}" for page in pages))
            rows += [f"fails {shape[2]}", f"cuts {shape[3]}"]
            rows += [] if shape[4] is None else [f"asked {shape[4]}"]
            self.assertEqual(stand_text(stand), "\n".join(rows))
            self.assertEqual(read_stand("\n".join(rows)), stand)


class ReadStand(unittest.TestCase):

    def assert_line(self, line, told):
        with self.subTest(told):
            with self.assertRaises(NoText) as caught:
                read_stand(text(told))
            self.assertEqual(caught.exception.line, line)

    def assert_part(self, part, told):
        with self.subTest(told):
            with self.assertRaises(NoStand) as caught:
                read_stand(text(told))
            self.assertEqual(caught.exception.part, part)

    def test_no_string(self):
        for wrong in NO_STRINGS:
            with self.assertRaises(NoText) as caught:
                read_stand(wrong)
            self.assertEqual(caught.exception.line, -1)

    def test_lines_that_are_lacking(self):
        rows = RIGHT.split("|")
        for many in range(1, 6):
            self.assert_line(many, "|".join(rows[:many]))
        self.assertEqual(read_stand("\n".join(rows[:6])).asked(), None)
        self.assert_line(1, "keys 1")
        self.assert_line(2, "keys 1|fails 0")
        self.assert_line(3, "keys 1|block 0 free|fails 0")
        self.assert_line(0, "")

    def test_lines_too_many(self):
        self.assert_line(7, RIGHT + "|")
        self.assert_line(7, RIGHT + "|asked 1")
        self.assert_line(6, RIGHT[:-8] + "|")
        self.assert_line(6, RIGHT[:-8] + "|cuts 4")
        self.assert_line(3, "keys 1|fails 0|cuts 0|block 0 free")
        self.assert_line(2, "keys 1|fails 0|block 0 free|cuts 0")
        self.assert_line(0, "|" + RIGHT)
        self.assert_line(1, RIGHT.replace("|", "||", 1))

    def test_each_line_in_its_turn(self):
        rows = RIGHT.split("|")
        for at, row in enumerate(rows):
            for wrong in ["", " ", row + " ", " " + row, row.replace(" ", "  ", 1), row.upper(), row[1:], row + " x",
                          row.split(" ")[0], row.split(" ")[0] + " ", "x" + row, row.replace(" ", "_", 1), row + "\t", "lost 1"]:
                self.assert_line(at, "|".join(rows[:at] + [wrong] + rows[at + 1:]))
                # Nothing behind the first wrong line counts.
                self.assert_line(at, "|".join(rows[:at] + [wrong] + ["odd"] * 3))
            self.assert_line(at, "|".join(rows[:at] + [rows[(at + 3) % 7]] + rows[at + 1:]) if at != 1 else "keys 2|cuts 4")
        for word in NO_NUMBERS:
            for at, first in [(0, "keys"), (4, "fails"), (5, "cuts"), (6, "asked")]:
                self.assert_line(at, "|".join(rows[:at] + [first + " " + word] + rows[at + 1:]))
                self.assert_line(at, "|".join(rows[:at] + [rows[at] + " 1"] + rows[at + 1:]))

    def test_lines_of_blocks(self):
        rows = RIGHT.split("|")
        lefts = [word for word in NO_NUMBERS if word not in ("ever", "bad")]
        pages = [word for word in NO_NUMBERS if word not in ("free", "old")]
        for at in (1, 2, 3):
            wrong = ["block", "block ", "block 1", "block ever", "block bad", "block 1 ", "block  1 0 free", "block 1 0  free",
                     "block 1 0 free ", "block free 0", "block 1 ever free", "block 1 bad", "block Ever old", "block 1 Old"]
            wrong += [f"block {left} 0 free" for left in lefts] + [f"block 1 {page}" for page in pages]
            wrong += [f"block 1 0 {page} old" for page in pages]
            for row in wrong:
                self.assert_line(at, "|".join(rows[:at] + [row] + rows[at + 1:]))

    def test_no_stand_with_its_part(self):
        rows = RIGHT.split("|")
        for word in ("0", "10", "999"):
            self.assert_part("keys", "|".join(["keys " + word] + rows[1:]))
        for word in ("10", "99", "999"):
            self.assert_part("fails", "|".join(rows[:4] + ["fails " + word] + rows[5:]))
            self.assert_part("cuts", "|".join(rows[:5] + ["cuts " + word] + rows[6:]))
        for word in ("2", "9", "999"):
            self.assert_part("asked", "|".join(rows[:6] + ["asked " + word]))
        self.assert_part("blocks", "keys 2|fails 3|cuts 4")
        self.assert_part("blocks", "keys 2" + "|block 1 free" * 10 + "|fails 99|cuts 4")
        for row in ["block 100 0 free", "block 1 0", "block 1 0 free free", "block 1 free 0", "block bad 0 free", "block 1 0 2",
                    "block 1 0 999", "block 1 0 1", "block 1 0 0", "block 1" + " old" * 7, "block 1" + " old" * 3000]:
            self.assert_part("blocks", "|".join([rows[0], row] + rows[2:]))
        self.assert_part("blocks", "keys 2" + ("|block 1" + " old" * 7) * 2 + "|fails 3|cuts 4")
        self.assert_part("keys", "keys 0|block 100 9|fails 99|cuts 99|asked 99")
        self.assert_part("blocks", "keys 1|block 100 9|fails 99|cuts 99|asked 99")


class Rows(unittest.TestCase):

    def test_by_hand(self):
        row = [0, (("write", 1), "bad"), (("copy", 2, 3), "done"), (("erase", 4), "late"), (("write", 8), "cut"), 8]
        told = "ask 0\nwrite 1 bad\ncopy 2 3 done\nerase 4 late\nwrite 8 cut\nask 8"
        self.assertEqual(row_text(row), told)
        self.assertEqual(read_row(told), row)
        self.assertEqual(row_text([]), "")
        self.assertEqual(read_row(""), [])

    def test_each_item(self):
        replies = ("done", "bad", "cut", "late")
        items = [(("copy", key, b), reply) for key in range(9) for b in range(9) for reply in replies]
        items += [((word, b), reply) for word in ("write", "erase") for b in range(9) for reply in replies]
        items += list(range(9))
        told = [" ".join(map(str, item[0] + item[1:])) if isinstance(item, tuple) else f"ask {item}" for item in items]
        for item, line in zip(items, told):
            self.assertEqual(row_text([item]), line)
            self.assertEqual(repr(read_row(line)), repr([item]))
        self.assertEqual(row_text(items), "\n".join(told))
        self.assertEqual(read_row("\n".join(told)), items)

    def test_lists_are_new(self):
        row = [0]
        row_text(row)
        self.assertEqual(row, [0])
        read_row("").append(1)
        self.assertEqual(read_row(""), [])

    def test_no_row(self):
        for wrong in NO_ROWS:
            with self.subTest(wrong):
                with self.assertRaises(NoRow) as caught:
                    row_text(wrong)
                self.assertEqual(caught.exception.index, -1)
        for wrong in NO_ITEMS:
            for ahead in range(3):
                with self.subTest(wrong):
                    with self.assertRaises(NoRow) as caught:
                        row_text([(("write", 1), "done")] * ahead + [wrong] + [None])
                    self.assertEqual(caught.exception.index, ahead)

    def test_no_text(self):
        for wrong in NO_STRINGS:
            with self.assertRaises(NoText) as caught:
                read_row(wrong)
            self.assertEqual(caught.exception.line, -1)
        lines = [" ", "\t", "ask", "ask ", "ask  0", " ask 0", "ask 0 ", "ask 0 0", "ask 0 done", "Ask 0", "asked 0", "write",
                 "write 0", "write 0 ", "write done", "write 0 done ", "write  0 done", "write 0  done", "write 0 torn",
                 "write 0 Done", "write 0 0 done", "write 0 done done", "copy 0 done", "copy 0 1 2 done", "copy 0 1", "copy",
                 "erase", "erase 0", "erase 0 1 done", "done", "put 0", "0", "make write 0 done", "late 0 late"]
        for word in NO_NUMBERS + ["9", "10", "99", "999"]:
            lines += [f"ask {word}", f"write {word} done", f"copy {word} 1 cut", f"copy 1 {word} cut", f"erase {word} late"]
        for line in lines:
            for ahead in range(3):
                with self.subTest(line):
                    with self.assertRaises(NoText) as caught:
                        read_row("ask 0\n" * ahead + line + "\nodd")
                    self.assertEqual(caught.exception.line, ahead)
        for told, line in [("\n", 0), ("ask 0\n", 1), ("ask 0\n\nask 0", 1), ("\nask 0", 0)]:
            with self.assertRaises(NoText) as caught:
                read_row(told)
            self.assertEqual(caught.exception.line, line)


if __name__ == "__main__":
    unittest.main()
