"""[26]: records, as the contents of pages."""

import random
import unittest

from spentblocks.errors import NoContent, NoRecord
from spentblocks.records import read_record, record
from spentblocks.stands import Stand
from tests import slowchip

STAND = Stand(1, [(0, (0,))], 0, 0)
ODD = [None, True, False, "", "0", (), [], [0], (0,), {}, STAND]
NO_RECORD_KEYS = ODD + [-1, 9, 10 ** 29]
NO_RECORD_NUMBERS = ODD + [0, -1, 2 ** 32, 10 ** 29]
NO_RECORD_VALUES = [None, True, 0, "", "ab", [], [1], {}, STAND, (0,) * 51, (256,), (-1,), (True,), (0, False), (None,),
                    ("1",), ((1,),), (10 ** 29,)]
NO_CONTENTS = [True, False, 0, 165, "", "ab", [], [165], {}, STAND, (0,) * 61, (256,), (-1,), (True,), (165, False), (None,),
               ("1",), ((1,),)]
NUMBERS = sorted({part for power in range(4) for part in (256 ** power - 1, 256 ** power, 256 ** power + 1)} - {0})
NUMBERS += [2 ** 32 - 2, 2 ** 32 - 1]
VALUES = [(), (0,), (255,), (0,) * 50, (255,) * 50, tuple(range(50)), tuple(range(206, 256)), (165, 0, 0, 0, 0, 1, 0)]


class Record(unittest.TestCase):

    def test_by_hand(self):
        self.assertEqual(record(0, 1, (7,))[:8], (165, 0, 0, 0, 0, 1, 1, 7))
        self.assertEqual(len(record(0, 1, (7,))), 10)
        self.assertEqual(record(8, 2 ** 32 - 1, ())[:7], (165, 8, 255, 255, 255, 255, 0))
        self.assertEqual(record(3, 0x01020304, (9, 8))[:9], (165, 3, 1, 2, 3, 4, 2, 9, 8))
        self.assertEqual(len(record(8, 1, (0,) * 50)), 59)

    def test_bytes_against_a_check_of_the_tests_own(self):
        for key in range(9):
            for number in NUMBERS:
                for value in VALUES:
                    with self.subTest(key=key, number=number, value=value):
                        self.assertEqual(record(key, number, value), slowchip.record(key, number, value))

    def test_no_record(self):
        for wrong in NO_RECORD_KEYS:
            with self.subTest(wrong):
                self.assertRaises(NoRecord, record, wrong, 1, (7,))
        for wrong in NO_RECORD_NUMBERS:
            with self.subTest(wrong):
                self.assertRaises(NoRecord, record, 0, wrong, (7,))
        for wrong in NO_RECORD_VALUES:
            with self.subTest(wrong):
                self.assertRaises(NoRecord, record, 0, 1, wrong)


class ReadRecord(unittest.TestCase):

    def test_right_ones(self):
        for key in range(9):
            for number in NUMBERS:
                for value in VALUES:
                    self.assertEqual(read_record(slowchip.record(key, number, value)), (key, number, value))

    def test_no_records(self):
        for content in [None, (), (165,), (0,) * 60, (165,) * 60]:
            self.assertIsNone(read_record(content))
        for many in range(9):
            self.assertIsNone(read_record((165, 0, 0, 0, 0, 1, 0, 0, 0)[:many]))
            self.assertIsNone(read_record(record(0, 1, ())[:many]))
        for many in range(7):
            self.assertIsNone(read_record(slowchip.with_check((165, 0, 0, 0, 0, 1, 0)[:many])))

    def test_one_byte_exchanged_taken_out_or_put_in(self):
        for whole in (record(0, 1, (7,)), record(8, 2 ** 32 - 1, ()), record(5, 77777, (1, 2, 3, 250)), record(2, 9, (0,) * 50)):
            for at in range(len(whole)):
                self.assertIsNone(read_record(whole[:at] + whole[at + 1:]))
                for byte in range(256):
                    if byte != whole[at]:
                        self.assertIsNone(read_record(whole[:at] + (byte,) + whole[at + 1:]))
            for at in range(len(whole) + 1):
                for byte in range(256):
                    self.assertIsNone(read_record(whole[:at] + (byte,) + whole[at:]))

    def test_a_right_check_with_a_part_that_no_record_has(self):
        with_check = slowchip.with_check
        self.assertEqual(read_record(with_check((165, 8, 0, 0, 0, 1, 1, 7))), (8, 1, (7,)))
        for parts in [(165, 9, 0, 0, 0, 1, 1, 7), (165, 255, 0, 0, 0, 1, 1, 7), (165, 0, 0, 0, 0, 0, 1, 7),
                      (165, 0, 0, 0, 0, 1, 0, 7), (165, 0, 0, 0, 0, 1, 2, 7), (165, 0, 0, 0, 0, 1, 1), (164, 0, 0, 0, 0, 1, 1, 7),
                      (165, 0, 0, 0, 0, 1, 51) + (1,) * 51, (165, 0, 0, 0, 0, 1, 255, 7), (165, 0, 0, 0, 0, 1), (165,), ()]:
            with self.subTest(parts):
                self.assertIsNone(read_record(with_check(parts)))
        self.assertEqual(len(with_check((165, 0, 0, 0, 0, 1, 51) + (1,) * 51)), 60)

    def test_random_contents_with_a_right_check(self):
        rng = random.Random(261)
        found = 0
        for _ in range(5000):
            many = rng.randrange(12)
            parts = (rng.choice([165, 165, 164]), rng.randrange(12), rng.choice([0, 0, 255]), 0, 0, rng.randrange(3),
                     rng.choice([many, many, many + 1])) + tuple(rng.randrange(256) for _ in range(many))
            content = slowchip.with_check(parts[:rng.choice([len(parts)] * 5 + [rng.randrange(8)])])
            self.assertEqual(read_record(content), slowchip.read_record(content))
            found += read_record(content) is not None
        self.assertGreater(found, 500)

    def test_no_content(self):
        for wrong in NO_CONTENTS:
            with self.subTest(wrong):
                self.assertRaises(NoContent, read_record, wrong)
        self.assertRaises(NoContent, read_record, list(record(0, 1, (7,))))


if __name__ == "__main__":
    unittest.main()
