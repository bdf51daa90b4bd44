"""[5]: the errors, their bases and their fields."""

import unittest

from spentblocks import errors

PLAIN = """NoKey NotAtRest NotAsked NoAct NoReply NoMost NoNumber NotCalm NotEver NotOn NoRooms NoIndex NoPuts NoPolicy
NoActs NoSums NoLost NoChip NoPlace NoReplies NotGood NoContent NoRoom PowerLost NoRecord NoKeys NoAdviser NoValue IsOver
NoBack NoLine NothingDone""".split()

FIELDS = {
    "NoStand": "part", "NoNames": "part", "NoSpread": "part", "TooMany": "most", "NoRow": "index",
    "WentBad": "block", "Unserved": "key", "NoText": "line", "NoName": "name",
}

VALUES = [0, -1, True, None, "keys", "", [1], (), {"a": [2]}, 10 ** 5000, object()]


class Errors(unittest.TestCase):

    def test_just_these_classes_stand_in_the_file(self):
        found = [name for name, thing in vars(errors).items() if isinstance(thing, type)]
        self.assertEqual(sorted(found), sorted(PLAIN + list(FIELDS) + ["SpentError"]))

    def test_spent_error_stands_directly_under_value_error(self):
        self.assertEqual(errors.SpentError.__bases__, (ValueError,))

    def test_each_other_one_stands_directly_under_spent_error(self):
        for name in PLAIN + list(FIELDS):
            with self.subTest(name):
                self.assertEqual(getattr(errors, name).__bases__, (errors.SpentError,))
                self.assertEqual(getattr(errors, name).__module__, "spentblocks.errors")

    def test_those_without_fields_are_created_without_arguments(self):
        for name in PLAIN + ["SpentError"]:
            with self.subTest(name):
                error = getattr(errors, name)()
                self.assertIsInstance(error, errors.SpentError)
                self.assertEqual(vars(error), {})
                self.assertIsInstance(str(error), str)

    def test_fields_keep_whatever_values_they_are_given(self):
        for name, field in FIELDS.items():
            for value in VALUES:
                with self.subTest(name=name, kind=value.__class__):
                    error = getattr(errors, name)(value)
                    self.assertIs(getattr(error, field), value)
                    self.assertEqual(list(vars(error)), [field])
                    self.assertIsInstance(str(error), str)

    def test_fields_can_be_given_by_name(self):
        for name, field in FIELDS.items():
            with self.subTest(name):
                self.assertEqual(getattr(getattr(errors, name)(**{field: 7}), field), 7)

    def test_those_with_fields_need_their_values(self):
        for name in FIELDS:
            with self.subTest(name):
                self.assertRaises(TypeError, getattr(errors, name))
                self.assertRaises(TypeError, getattr(errors, name), 1, 2)

    def test_they_are_raised_and_caught_by_their_bases(self):
        for name in PLAIN + list(FIELDS):
            error = getattr(errors, name)
            with self.subTest(name):
                with self.assertRaises(ValueError):
                    raise error(3) if name in FIELDS else error()


if __name__ == "__main__":
    unittest.main()
