"""[7], [8]: puts, acts and replies."""

import unittest

from spentblocks.errors import NoAct, NoKey, NoReply, NotAtRest
from spentblocks.stands import Stand, stand_of
from tests import slow

# Block 0 holds the keys 0 and 1, block 1 is bad and holds the key 2, block 2 is old, block 3 has a free page.
ROW = [(2, (0, 1)), (None, (2, "old")), (1, ("old", "old")), ("ever", ("old", "free"))]


def stand(asked=None, fails=1, cuts=1, row=None):
    return Stand(4, ROW if row is None else row, fails, cuts, asked=asked)


def acts(blocks, asked=0, keys=3):
    return Stand(keys, blocks, 0, 0, asked=asked).acts()


class Puts(unittest.TestCase):

    def test_a_put_asks_the_key_alone(self):
        for key in range(4):
            self.assertEqual(stand().put(key).shape(), stand().shape()[:4] + (key,))

    def test_the_stand_itself_stays(self):
        one = stand()
        one.put(1)
        self.assertEqual(one, stand())

    def test_only_at_rest_and_only_a_key(self):
        for key in [-1, 4, True, False, None, "0", [0], (0,)]:
            with self.subTest(key):
                self.assertRaises(NoKey, stand().put, key)
        self.assertRaises(NotAtRest, stand(asked=0).put, 1)
        self.assertRaises(NotAtRest, stand(asked=0).put, 9)


class Acts(unittest.TestCase):

    def test_at_rest_there_are_none(self):
        self.assertEqual(stand().acts(), [])

    def test_the_example(self):
        one = Stand(1, [(1, (0,)), (0, ("free",))], 0, 0).put(0)
        self.assertEqual(one.acts(), [("write", 1), ("copy", 0, 1)])

    def test_writes_then_copies_then_erases(self):
        self.assertEqual(stand(asked=3).acts(), [
            ("write", 3), ("copy", 0, 3), ("copy", 1, 3), ("copy", 2, 3), ("erase", 2), ("erase", 3)])

    def test_the_copies_go_by_key_and_then_by_block(self):
        row = [(0, (2, "free")), (0, (0, "free")), (0, (1, "free")), (1, ("old", "free"))]
        self.assertEqual(acts(row, asked=1), [
            ("write", 0), ("write", 1), ("write", 2), ("write", 3),
            ("copy", 0, 0), ("copy", 0, 2), ("copy", 0, 3), ("copy", 1, 0), ("copy", 1, 1), ("copy", 1, 3),
            ("copy", 2, 1), ("copy", 2, 2), ("copy", 2, 3), ("erase", 3)])

    def test_writes_need_a_free_page_and_may_go_beside_the_elder_copy(self):
        self.assertEqual(acts([(0, (0, "free")), (0, ("old", "old"))]), [("write", 0)])
        self.assertEqual(acts([(0, ("free", "free")), (None, ("old", "old"))]), [("write", 0)])
        self.assertEqual(acts([(0, (0, 1)), (None, (2, "old"))]), [])

    def test_the_asked_key_is_copied_too_but_not_into_its_own_block(self):
        self.assertEqual(acts([(0, (0, "free")), (0, ("old", "free"))]), [
            ("write", 0), ("write", 1), ("copy", 0, 1)])
        self.assertEqual(acts([(0, (0, "free"))], asked=1), [("write", 0)])

    def test_copies_may_come_out_of_a_bad_block(self):
        self.assertEqual(acts([(None, (1, "old")), (0, ("old", "free"))]), [("write", 1), ("copy", 1, 1)])

    def test_erases(self):
        self.assertEqual(acts([(1, ("old", "old"))]), [("erase", 0)])
        self.assertEqual(acts([("ever", ("old", "old"))]), [("erase", 0)])
        self.assertEqual(acts([(1, ("old", "free"))]), [("write", 0), ("erase", 0)])
        self.assertEqual(acts([(1, ("free", "free"))]), [("write", 0)])
        self.assertEqual(acts([("ever", ("free", "free"))]), [("write", 0)])
        self.assertEqual(acts([(0, ("old", "old"))]), [])
        self.assertEqual(acts([(None, ("old", "old"))]), [])
        self.assertEqual(acts([("ever", ("old", 2))]), [])
        self.assertEqual(acts([("ever", (0, "old"))]), [])
        self.assertEqual(acts([(2, ("old",)), (0, ("old",)), (99, ("old",))]), [("erase", 0), ("erase", 2)])

    def test_they_are_told_anew(self):
        one = stand(asked=3)
        one.acts().clear()
        self.assertEqual(len(one.acts()), 6)

    def test_they_are_those_of_the_slow_reckoning(self):
        for shape in slow.some_shapes(1, 300):
            self.assertEqual(stand_of(shape).acts(), slow.acts(shape))


class Replies(unittest.TestCase):

    def test_which_are_let(self):
        for act in stand(asked=3).acts():
            self.assertEqual(stand(3, 0, 0).replies(act), ["done"])
            self.assertEqual(stand(3, 1, 0).replies(act), ["done", "bad"])
            self.assertEqual(stand(3, 0, 1).replies(act), ["done", "cut", "late"])
            self.assertEqual(stand(3, 9, 9).replies(act), ["done", "bad", "cut", "late"])

    def test_no_reply_to_what_is_no_act(self):
        one = stand(asked=3)
        wrong = [None, True, 0, "write", [], (), {}, ["write", 3], ("write",), ("write", 0), ("write", 4), ("erase", 0),
                 ("write", 3, 3), ("copy", 0), ("copy", 3, 3), ("copy", 0, 0), ("Write", 3), ("write", "3"), (3, "write"),
                 ("copy", 0, 3, 3), ("copy", False, 3), ("copy", True, 3), ("erase", [2]), one]
        for act in wrong:
            with self.subTest(act):
                self.assertRaises(NoAct, one.replies, act)
                self.assertRaises(NoAct, one.after, act, "done")
                self.assertRaises(NoAct, one.after, act, "no reply")
                self.assertRaises(NoAct, one.served, act, "done")
                self.assertRaises(NoAct, one.served, act, "no reply")

    def test_a_flag_is_no_block(self):
        one = stand(asked=3, row=[("ever", ("old", "free")), ("ever", ("old", "free")), (0, (0, 1)), (0, (2, "old"))])
        self.assertEqual(one.replies(("write", 1)), one.replies(("erase", 0)))
        for act in [("write", True), ("write", False), ("erase", True), ("erase", False), ("copy", 0, True)]:
            self.assertRaises(NoAct, one.replies, act)

    def test_there_are_no_acts_at_rest(self):
        self.assertRaises(NoAct, stand().replies, ("write", 3))
        self.assertRaises(NoAct, stand().after, ("write", 3), "done")
        self.assertRaises(NoAct, stand().served, ("write", 3), "done")

    def test_no_other_reply(self):
        for reply in [None, True, 0, "", "Done", "torn", ["done"], ("done",), ("cut", ()), {}, stand()]:
            with self.subTest(reply):
                self.assertRaises(NoReply, stand(asked=3).after, ("write", 3), reply)
                self.assertRaises(NoReply, stand(asked=3).served, ("write", 3), reply)

    def test_replies_that_are_not_let(self):
        for act in stand(asked=3).acts():
            for reply in ("bad", "cut", "late"):
                self.assertRaises(NoReply, stand(3, 0, 0).after, act, reply)
                self.assertRaises(NoReply, stand(3, 0, 0).served, act, reply)
            self.assertRaises(NoReply, stand(3, 0, 1).after, act, "bad")
            self.assertRaises(NoReply, stand(3, 1, 0).after, act, "cut")
            self.assertRaises(NoReply, stand(3, 1, 0).after, act, "late")


class After(unittest.TestCase):

    def assert_after(self, asked, act, reply, changed, fails=1, cuts=1, still=None):
        row = [changed.get(b, block) for b, block in enumerate(ROW)]
        one = stand(asked=asked)
        self.assertEqual(one.after(act, reply), Stand(4, row, fails, cuts, asked=still))
        self.assertEqual(one.served(act, reply), act[0] == "write" and reply == "done")
        self.assertEqual(one, stand(asked=asked))

    def test_a_write_of_a_key_with_a_copy(self):
        act = ("write", 3)
        new = {0: (2, (0, "old")), 3: ("ever", ("old", 1))}
        self.assert_after(1, act, "done", new)
        self.assert_after(1, act, "bad", {3: (None, ("old", "old"))}, fails=0, still=1)
        self.assert_after(1, act, "cut", {3: ("ever", ("old", "old"))}, cuts=0)
        self.assert_after(1, act, "late", new, cuts=0)

    def test_a_write_of_a_key_without_a_copy(self):
        self.assert_after(3, ("write", 3), "done", {3: ("ever", ("old", 3))})
        self.assert_after(3, ("write", 3), "late", {3: ("ever", ("old", 3))}, cuts=0)

    def test_a_write_of_a_key_in_a_bad_block(self):
        self.assert_after(2, ("write", 3), "done", {1: (None, ("old", "old")), 3: ("ever", ("old", 2))})

    def test_a_write_beside_the_elder_copy(self):
        one = Stand(1, [(1, (0, "free", "free"))], 1, 1, asked=0)
        self.assertEqual(one.after(("write", 0), "done"), Stand(1, [(1, ("old", 0, "free"))], 1, 1))
        self.assertEqual(one.after(("write", 0), "bad"), Stand(1, [(None, (0, "old", "old"))], 0, 1, asked=0))
        self.assertEqual(one.after(("write", 0), "cut"), Stand(1, [(1, (0, "old", "free"))], 1, 0))
        self.assertEqual(one.after(("write", 0), "late"), Stand(1, [(1, ("old", 0, "free"))], 1, 0))

    def test_a_copy(self):
        act = ("copy", 0, 3)
        new = {0: (2, ("old", 1)), 3: ("ever", ("old", 0))}
        self.assert_after(3, act, "done", new, still=3)
        self.assert_after(3, act, "bad", {3: (None, ("old", "old"))}, fails=0, still=3)
        self.assert_after(3, act, "cut", {3: ("ever", ("old", "old"))}, cuts=0)
        self.assert_after(3, act, "late", new, cuts=0)

    def test_a_copy_of_the_asked_key_serves_nothing(self):
        self.assert_after(0, ("copy", 0, 3), "done", {0: (2, ("old", 1)), 3: ("ever", ("old", 0))}, still=0)

    def test_a_copy_out_of_a_bad_block(self):
        self.assert_after(0, ("copy", 2, 3), "done", {1: (None, ("old", "old")), 3: ("ever", ("old", 2))}, still=0)

    def test_an_erase_of_a_block_with_a_number_left(self):
        act = ("erase", 2)
        self.assert_after(0, act, "done", {2: (0, ("free", "free"))}, still=0)
        self.assert_after(0, act, "bad", {2: (None, ("old", "old"))}, fails=0, still=0)
        self.assert_after(0, act, "cut", {2: (0, ("old", "old"))}, cuts=0)
        self.assert_after(0, act, "late", {2: (0, ("free", "free"))}, cuts=0)

    def test_an_erase_of_a_block_with_ever_left(self):
        act = ("erase", 3)
        self.assert_after(0, act, "done", {3: ("ever", ("free", "free"))}, still=0)
        self.assert_after(0, act, "bad", {3: (None, ("old", "old"))}, fails=0, still=0)
        self.assert_after(0, act, "cut", {3: ("ever", ("old", "old"))}, cuts=0)
        self.assert_after(0, act, "late", {3: ("ever", ("free", "free"))}, cuts=0)

    def test_a_block_that_goes_bad_keeps_its_copies(self):
        one = Stand(3, [(1, (0, 1, "free")), (1, ("old", 2, "free"))], 2, 0, asked=0)
        self.assertEqual(one.after(("write", 0), "bad"),
                         Stand(3, [(None, (0, 1, "old")), (1, ("old", 2, "free"))], 1, 0, asked=0))

    def test_they_are_those_of_the_slow_reckoning(self):
        for shape in slow.some_shapes(2, 200):
            one = stand_of(shape)
            for act in slow.acts(shape):
                self.assertEqual(one.replies(act), slow.replies(shape))
                for reply in slow.replies(shape):
                    behind, served = slow.after(shape, act, reply)
                    self.assertEqual(one.after(act, reply).shape(), behind)
                    self.assertIs(one.served(act, reply), served)


if __name__ == "__main__":
    unittest.main()
