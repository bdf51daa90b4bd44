"""[30]: matches."""

import random
import unittest

from spentblocks.advice import good_acts, hard_keys
from spentblocks.errors import NoAct, NoBack, NoKey, NoMost, NoReply, NotAsked, NotAtRest, TooMany
from spentblocks.lives import life
from spentblocks.matches import Match
from spentblocks.stands import Stand, fresh, stand_of
from tests import slow

SMALL = Stand(1, [(1, (0,)), (0, ("free",))], 0, 0)
FAILING = Stand(2, [(1, (0, "free")), (0, ("old", "free")), ("ever", ("free", "free"))], 1, 1)
WRONG_KEYS = [None, True, False, -1, 2, 9, 10 ** 29, "", "0", (), (0,), [0], {}, SMALL]
WRONG_ACTS = [None, True, 0, "", "write", (), ("write",), ("write", True), ["write", 0], ("write", 9), ("write", 0, "done"),
              ("copy", 0, 0), ("copy", 1, 1), ("erase", 1), ("erase", 2), ("done", 0), {}, SMALL]
WRONG_REPLIES = [None, True, 0, "", "Done", "torn", (), ("done",), ("late",), ["done"], ("cut", ()), {}, SMALL]
WRONG_BACKS = [None, True, False, 0, -1, 10 ** 29, "", "1", (), [1], {}, SMALL]
WRONG_BOUNDS = [0, -1, 100001, 10 ** 29, True, False, None, "20000", "", (), [5]]


def seen(match):
    return (match.stand().shape(), match.row(), match.served(), len(match))


class Model:
    """A match by the letter: all shapes on the way, the row, and how many puts were served behind each item."""

    def __init__(self, shape):
        self.way = [(shape, 0)]
        self.row = []

    def seen(self):
        shape, served = self.way[-1]
        return (shape, self.row, served, len(self.row))

    def play(self, rng):
        """One item that can be made, at random; None if there is none."""
        shape, served = self.way[-1]
        if shape[4] is None:
            item = rng.randrange(shape[0])
            self.way.append((shape[:4] + (item,), served))
        elif slow.acts(shape):
            item = (rng.choice(slow.acts(shape)), rng.choice(slow.replies(shape)))
            end, more = slow.after(shape, *item)
            self.way.append((end, served + more))
        else:
            return None
        self.row.append(item)
        return item

    def back(self, many):
        self.way = self.way[:-many]
        self.row = self.row[:-many]


def make(match, item):
    """Makes an item of a row."""
    return match.make(*item) if isinstance(item, tuple) else match.ask(item)


class Played(unittest.TestCase):

    def test_by_hand(self):
        match = Match(SMALL)
        self.assertEqual(seen(match), (SMALL.shape(), [], 0, 0))
        self.assertIsNone(match.ask(0))
        self.assertEqual(match.stand(), SMALL.put(0))
        self.assertIsNone(match.make(("write", 1), "done"))
        self.assertEqual(match.stand(), Stand(1, [(1, ("old",)), (0, (0,))], 0, 0))
        self.assertEqual((match.row(), match.served(), len(match)), ([0, (("write", 1), "done")], 1, 2))
        self.assertIsNone(match.back(1))
        self.assertEqual(seen(match), (SMALL.put(0).shape(), [0], 0, 1))
        self.assertIsNone(match.back(1))
        self.assertEqual(seen(match), (SMALL.shape(), [], 0, 0))

    def test_begun_while_a_put_is_asked(self):
        match = Match(SMALL.put(0))
        self.assertRaises(NotAtRest, match.ask, 0)
        match.make(("write", 1), "done")
        self.assertEqual((match.row(), match.served()), ([(("write", 1), "done")], 1))

    def test_a_late_write_serves_nothing(self):
        for word in ("cut", "late", "bad"):
            match = Match(FAILING)
            match.ask(1)
            match.make(("write", 2), word)
            self.assertEqual((match.served(), match.stand().asked()), (0, 1 if word == "bad" else None))

    def test_against_a_model(self):
        rng = random.Random(301)
        served = 0
        for _ in range(200):
            shape = slow.some_shape(rng, (0, 2, 5, "ever", "ever"))
            match, model = Match(stand_of(shape)), Model(shape)
            for _ in range(60):
                if rng.random() < 0.15 and model.row:
                    many = rng.randint(1, min(len(model.row), rng.choice([1, 3, 99])))
                    self.assertIsNone(match.back(many))
                    model.back(many)
                else:
                    item = model.play(rng)
                    if item is not None:
                        self.assertIsNone(make(match, item))
                self.assertEqual(seen(match), model.seen())
            served += match.served()
        self.assertGreater(served, 200)

    def test_rows_may_be_changed(self):
        match = Match(SMALL)
        match.ask(0)
        match.row().append(7)
        match.row().clear()
        self.assertEqual(match.row(), [0])

    def test_two_matches_go_on_apart(self):
        stand = SMALL
        one, other = Match(stand), Match(stand)
        one.ask(0)
        self.assertEqual(seen(other), (SMALL.shape(), [], 0, 0))
        other.ask(0)
        other.make(("write", 1), "done")
        self.assertEqual(seen(one), (SMALL.put(0).shape(), [0], 0, 1))


class Refused(unittest.TestCase):

    def assert_refused(self, match, error, call, *arguments):
        before = seen(match)
        self.assertRaises(error, call, *arguments)
        self.assertEqual(seen(match), before)

    def test_asks(self):
        match = Match(FAILING)
        for wrong in WRONG_KEYS:
            with self.subTest(wrong):
                self.assert_refused(match, NoKey, match.ask, wrong)
        match.ask(1)
        for key in [0, 1] + WRONG_KEYS:
            self.assert_refused(match, NotAtRest, match.ask, key)

    def test_makes(self):
        match = Match(FAILING)
        for act in [("write", 0)] + WRONG_ACTS:
            for reply in ["done"] + WRONG_REPLIES:
                self.assert_refused(match, NotAsked, match.make, act, reply)
        match.ask(1)
        for act in WRONG_ACTS:
            with self.subTest(act):
                self.assert_refused(match, NoAct, match.make, act, "done")
                self.assert_refused(match, NoAct, match.make, act, None)
        for reply in WRONG_REPLIES:
            with self.subTest(reply):
                self.assert_refused(match, NoReply, match.make, ("write", 0), reply)
        match = Match(SMALL.put(0))
        for reply in ("bad", "cut", "late"):
            self.assert_refused(match, NoReply, match.make, ("write", 1), reply)

    def test_backs(self):
        match = Match(FAILING)
        for wrong in WRONG_BACKS + [1]:
            with self.subTest(wrong):
                self.assert_refused(match, NoBack, match.back, wrong)
        match.ask(0)
        match.make(("write", 0), "done")
        for wrong in WRONG_BACKS + [3, 4]:
            with self.subTest(wrong):
                self.assert_refused(match, NoBack, match.back, wrong)
        match.back(2)
        self.assertEqual(seen(match), (FAILING.shape(), [], 0, 0))


class Tried(unittest.TestCase):

    def match(self):
        match = Match(FAILING)
        match.ask(1)
        match.make(("write", 0), "done")
        match.ask(0)
        return match

    def test_called_once_with_the_match_and_its_value_returned(self):
        match = self.match()
        calls = []
        for value in (None, 7, [1], match, "text"):
            def action(one):
                calls.append(one)
                return value
            self.assertIs(match.tried(action), value)
        self.assertEqual(len(calls), 5)
        self.assertTrue(all(one is match for one in calls))

    def test_all_is_put_back(self):
        def play(match):
            match.make(("write", 1), "done")
            match.ask(0)
            return seen(match)

        def go_back(match):
            match.back(3)
            match.ask(0)
            match.make(("write", 2), "late")
            return seen(match)

        def go_back_and_on(match):
            match.back(1)
            match.ask(1)
            return seen(match)
        match = self.match()
        before = seen(match)
        for action in (play, go_back, go_back_and_on, lambda match: match.back(len(match)), lambda match: None):
            self.assertNotEqual(match.tried(action), before)
            self.assertEqual(seen(match), before)
        match.back(1)
        self.assertEqual(match.row(), [1, (("write", 0), "done")])
        match.ask(0)
        self.assertEqual(seen(match), before)

    def test_an_error_goes_on(self):
        class Odd(Exception):
            pass

        def fail(match):
            match.back(2)
            raise Odd("odd")

        def refuse(match):
            match.make(("write", 1), "done")
            match.make(("write", 1), "done")
        match = self.match()
        before = seen(match)
        for action, error in [(fail, Odd), (refuse, NotAsked), (lambda match: match.back(0), NoBack)]:
            self.assertRaises(error, match.tried, action)
            self.assertEqual(seen(match), before)

    def test_tried_within_tried(self):
        def inner(match):
            match.back(1)
            raise KeyError()

        def outer(match):
            match.make(("write", 1), "done")
            inside = seen(match)
            self.assertRaises(KeyError, match.tried, inner)
            self.assertEqual(seen(match), inside)
            match.tried(lambda one: one.back(4))
            self.assertEqual(seen(match), inside)
            return match.served()
        match = self.match()
        before = seen(match)
        self.assertEqual(match.tried(outer), 2)
        self.assertEqual(seen(match), before)

    def test_the_match_goes_on_behind_it(self):
        match = self.match()
        match.tried(lambda one: one.make(("write", 1), "done"))
        match.make(("write", 2), "cut")
        self.assertEqual(match.row()[-1], (("write", 2), "cut"))
        self.assertEqual(len(match), 4)


class Best(unittest.TestCase):

    def test_by_hand(self):
        match = Match(SMALL)
        self.assertEqual(match.best(), 0)
        match.ask(0)
        self.assertEqual(match.best(), ("write", 1))
        self.assertEqual(Match(Stand(2, [(1, (0,)), (0, ("free",)), (0, ("old",))], 0, 0)).best(), 1)

    def test_none_at_the_life_0(self):
        self.assertIsNone(Match(Stand(1, [(0, (0,))], 0, 0)).best())
        self.assertIsNone(Match(Stand(1, [(0, (0,))], 0, 0, asked=0)).best())
        self.assertIsNone(Match(Stand(1, [(1, (0,)), (0, ("free",))], 0, 1, asked=0)).best())

    def test_for_ever(self):
        match = Match(fresh(2, 2, 2, "ever", 0, 0))
        for count in range(60):
            self.assertEqual(match.best(), 0)
            match.ask((0, 1, 1)[count % 3])
            self.serve(match)
        self.assertEqual(match.served(), 60)

    def serve(self, match):
        """Makes the acts that are told, each with "done", till the put is served."""
        served = match.served()
        stands = []
        while match.served() == served:
            self.assertNotIn(match.stand(), stands)
            stands.append(match.stand())
            act = match.best()
            self.assertIn(act, good_acts(match.stand()))
            match.make(act, "done")

    def test_reckoned(self):
        kinds = {}
        for lefts in ((0, 1, 2, "ever", None), ("ever",), (1, "ever")):
            for shape in slow.some_shapes(303 + len(lefts), 80, 400, lefts=lefts):
                stand = stand_of(shape)
                with self.subTest(shape):
                    match = Match(stand)
                    many = life(stand)
                    kinds[(shape[4] is None, many == 0)] = kinds.get((shape[4] is None, many == 0), 0) + 1
                    if many == 0:
                        self.assertIsNone(match.best())
                    elif shape[4] is None:
                        self.assertEqual(match.best(), hard_keys(stand)[0])
                    else:
                        self.serve(match)
                        self.assertEqual(match.stand().asked(), None)
        self.assertGreater(min(kinds.values()), 10, kinds)
        self.assertEqual(len(kinds), 4)

    def test_it_serves_the_life_against_any_reply(self):
        rng = random.Random(304)
        for shape in slow.some_shapes(305, 40, 500, lefts=(0, 1, 2, "ever")):
            least = slow.life(shape)
            if not least:
                continue
            for _ in range(6):
                match = Match(stand_of(shape))
                while match.served() < least and len(match) < 400:
                    if match.stand().asked() is None:
                        match.ask(rng.randrange(shape[0]))
                    else:
                        match.make(match.best(), rng.choice(match.stand().replies(match.best())))
                self.assertEqual(match.served(), least)

    def test_it_changes_nothing(self):
        match = Match(FAILING)
        match.ask(0)
        before = seen(match)
        match.best()
        self.assertEqual(seen(match), before)

    def test_wrong_bounds(self):
        for match in (Match(SMALL), Match(SMALL.put(0)), Match(Stand(1, [(0, (0,))], 0, 0, asked=0))):
            for most in WRONG_BOUNDS:
                with self.subTest(most):
                    self.assertRaises(NoMost, match.best, most=most)
            self.assertRaises(TypeError, match.best, 20000)

    def test_too_many(self):
        for stand in (SMALL, SMALL.put(0), FAILING):
            many = slow.count(stand.shape())
            self.assertIsNotNone(Match(stand).best(most=many))
            with self.assertRaises(TooMany) as caught:
                Match(stand).best(most=many - 1)
            self.assertEqual(caught.exception.most, many - 1)

    def test_the_bound_that_counts_without_one(self):
        with self.assertRaises(TooMany) as caught:
            Match(fresh(1, 3, 1, 8, 1, 1)).best()
        self.assertEqual(caught.exception.most, 20000)


if __name__ == "__main__":
    unittest.main()
