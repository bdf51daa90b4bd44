"""[33]: the desk."""

import random
import unittest

from spentblocks.advice import good_acts, hard_keys
from spentblocks.desk import Desk
from spentblocks.errors import (NoAct, NoKey, NoLine, NoName, NoReply, NoStand, NoText, NotAsked, NotAtRest, NothingDone,
                                SpentError, TooMany)
from spentblocks.lives import life
from spentblocks.stands import Stand, fresh
from spentblocks.texts import row_text, stand_text
from tests import slow
from tests.test_texts import NO_NUMBERS

SMALL = Stand(1, [(1, (0,)), (0, ("free",))], 0, 0)
TEXT = "keys 1|block 1 0|block 0 free|fails 0|cuts 0"
NAMES = ["a", "z", "abc", "abcdefgh", "stand", "names", "undo", "ever", "none", "free"]
NO_NAMES = ["", "A", "aB", "a1", "1", "a_b", "a-b", "abcdefghi", "a.", "?", "a|b", "a\tb", "none!"]
NO_LINES = [None, True, False, 0, (), ("names",), ["names"], [], {}, SMALL, "", " ", "name", "Names", "NAMES", "names ", " names",
            "names a", "undo ", "undo a", " undo", "Undo", "undo 1", "undone", "undoable", "help", "drop", "drop ", "drop a ",
            "drop a b", "drop  a", "show", "show ", "show a b", "show a ", "life", "life a b", "life a 1", "good", "good a 1",
            "hard", "hard a ", "stand", "stand ", "stand a", "stand  a", "stand A ", "ask", "ask a", "ask a ", "ask a 0 0",
            "ask a 0 ", "ask a  0", "ask  a 0", "make", "make a", "make a ", "make a write", "make a write 0", "make a done",
            "make a write 0 done ", "make a write 0 torn", "make a write done", "make a copy 0 done", "make a copy 0 1 1 done",
            "make a ask 0", "make a ask 0 done", "make a erase 0 1 done", "make a write 9 done", "make a copy 9 0 done",
            "make a copy 0 9 done", "make a erase 10 done", "make a  write 0 done", "make a write 0 Done", "fresh", "fresh a",
            "fresh a 1 1 1 1 0", "fresh a 1 1 1 1 0 0 0", "fresh a 1 1 1 1 0 0 ", "fresh a  1 1 1 1 0 0", "fresh 1 1 1 1 0 0",
            "fresh a 1 1 1 bad 0 0", "fresh a 1 1 1 Ever 0 0", "fresh a ever 1 1 1 0 0", "fresh a 1 1 1 1 ever 0",
            "fresh a 1 1 1 1 0 ever", "fresh a 1 ever 1 1 0 0", "names\n", "\nnames", "show a\n", "undo\n",
            "stand a " + TEXT.replace("|", "\n"), "show a\nshow a"]


def flat(stand):
    return stand_text(stand).replace("\n", "|")


def seen(desk):
    """All that a desk shows: its stands by their names, and how many lines can be taken back."""
    names = desk.tell("names")
    return {name: desk.tell("show " + name) for name in names.split(" ") if names != "none"}, desk.undoable()


def desk_with(**stands):
    desk = Desk()
    for name, stand in stands.items():
        desk.tell(f"stand {name} {flat(stand)}")
    return desk


class Lines(unittest.TestCase):

    def assert_ok(self, desk, line):
        many = desk.undoable()
        self.assertEqual(desk.tell(line), "ok")
        self.assertEqual(desk.undoable(), many + 1)

    def test_a_new_desk(self):
        desk = Desk()
        self.assertEqual(desk.tell("names"), "none")
        self.assertEqual(desk.undoable(), 0)
        self.assertRaises(NothingDone, desk.tell, "undo")

    def test_stand_and_show(self):
        desk = Desk()
        for name in NAMES:
            self.assert_ok(desk, f"stand {name} {TEXT}")
            self.assertEqual(desk.tell(f"show {name}"), TEXT)
        asked = Stand(2, [(None, (1, "old")), ("ever", (0, "free"))], 9, 8, asked=1)
        self.assert_ok(desk, "stand a " + flat(asked))
        self.assertEqual(desk.tell("show a"), "keys 2|block bad 1 old|block ever 0 free|fails 9|cuts 8|asked 1")
        self.assertEqual(desk.tell("names"), " ".join(sorted(NAMES)))

    def test_fresh(self):
        desk = Desk()
        for keys, blocks, pages, left, fails, cuts in [(1, 1, 1, 0, 0, 0), (9, 9, 6, 99, 9, 9), (2, 3, 4, "ever", 1, 0)]:
            self.assert_ok(desk, f"fresh a {keys} {blocks} {pages} {left} {fails} {cuts}")
            self.assertEqual(desk.tell("show a"), flat(fresh(keys, blocks, pages, left, fails, cuts)))

    def test_drop_and_names(self):
        desk = desk_with(b=SMALL, a=SMALL, c=SMALL)
        self.assertEqual(desk.tell("names"), "a b c")
        self.assert_ok(desk, "drop b")
        self.assertEqual(desk.tell("names"), "a c")
        self.assertRaises(NoName, desk.tell, "show b")
        self.assert_ok(desk, "drop a")
        self.assert_ok(desk, "drop c")
        self.assertEqual(desk.tell("names"), "none")

    def test_ask_and_make(self):
        desk = desk_with(a=SMALL, b=SMALL)
        self.assert_ok(desk, "ask a 0")
        self.assertEqual(desk.tell("show a"), TEXT + "|asked 0")
        self.assert_ok(desk, "make a copy 0 1 done")
        self.assertEqual(desk.tell("show a"), "keys 1|block 1 old|block 0 0|fails 0|cuts 0|asked 0")
        self.assert_ok(desk, "make a erase 0 done")
        self.assert_ok(desk, "make a write 0 done")
        self.assertEqual(desk.tell("show a"), "keys 1|block 0 0|block 0 old|fails 0|cuts 0")
        self.assertEqual(desk.tell("show b"), TEXT)

    def test_each_reply(self):
        for act in [("write", 1), ("copy", 0, 1), ("erase", 0)]:
            stand = Stand(1, [(1, ("old", "old")), (2, ("old", "free")), ("ever", (0, "free"))], 1, 1, asked=0)
            for reply in ("done", "bad", "cut", "late"):
                desk = desk_with(a=stand)
                self.assert_ok(desk, "make a " + row_text([(act, reply)]))
                self.assertEqual(desk.tell("show a"), flat(stand.after(act, reply)))

    def test_life_good_and_hard(self):
        stands = {"a": SMALL, "b": fresh(1, 2, 1, "ever", 0, 0), "c": Stand(1, [(0, (0,))], 0, 0),
                  "d": Stand(3, [(1, (0, 1)), (0, ("free", "free"))], 0, 0)}
        desk = desk_with(**stands)
        before = seen(desk)
        self.assertEqual([desk.tell(f"life {name}") for name in "abc"], ["2", "ever", "0"])
        self.assertEqual([desk.tell(f"hard {name}") for name in "abc"], ["0", "0", "0"])
        self.assertEqual(desk.tell("hard d"), " ".join(map(str, hard_keys(stands["d"]))))
        self.assertEqual(desk.tell("life d"), str(life(stands["d"])))
        self.assertEqual(seen(desk), before)
        for name in "abc":
            desk.tell(f"ask {name} 0")
        self.assertEqual([desk.tell(f"good {name}") for name in "abc"], ["write 1", "write 0; write 1", "none"])
        self.assertEqual([desk.tell(f"life {name}") for name in "abc"], ["2", "ever", "0"])

    def test_answers_at_random(self):
        many = 0
        for shape in slow.some_shapes(331, 80, 300, lefts=(0, 1, "ever", "ever", None)):
            stand = Stand(*shape[:1], list(shape[1]), *shape[2:4], asked=shape[4])
            desk = desk_with(a=stand)
            self.assertEqual(desk.tell("life a"), "ever" if life(stand) is None else str(life(stand)))
            if shape[4] is None:
                self.assertEqual(desk.tell("hard a"), " ".join(map(str, hard_keys(stand))))
            else:
                told = "; ".join(" ".join(map(str, act)) for act in good_acts(stand))
                self.assertEqual(desk.tell("good a"), told or "none")
                many += "; " in told
        self.assertGreater(many, 3)

    def test_two_desks_go_on_apart(self):
        one, other = desk_with(a=SMALL), desk_with(a=SMALL)
        one.tell("ask a 0")
        self.assertEqual(seen(other), ({"a": TEXT}, 1))
        other.tell("undo")
        self.assertEqual(seen(one), ({"a": TEXT + "|asked 0"}, 2))


class Undo(unittest.TestCase):

    def test_back_to_the_empty_desk(self):
        desk = Desk()
        lines = ["stand a " + TEXT, "fresh b 2 3 1 1 0 1", "ask a 0", "make a write 1 done", "stand a " + TEXT, "drop b",
                 "fresh a 1 1 1 1 1 1", "drop a", "stand a " + TEXT, "ask a 0"]
        shown = []
        for count, line in enumerate(lines):
            shown.append(seen(desk))
            self.assertEqual(shown[-1][1], count)
            self.assertEqual(desk.tell(line), "ok")
        for before in reversed(shown):
            self.assertEqual(desk.tell("undo"), "ok")
            self.assertEqual(seen(desk), before)
        for _ in range(2):
            self.assertRaises(NothingDone, desk.tell, "undo")
        self.assertEqual(seen(desk), ({}, 0))

    def test_on_behind_an_undo(self):
        desk = desk_with(a=SMALL)
        desk.tell("ask a 0")
        desk.tell("undo")
        desk.tell("drop a")
        desk.tell("undo")
        self.assertEqual(seen(desk), ({"a": TEXT}, 1))
        desk.tell("undo")
        self.assertEqual(seen(desk), ({}, 0))

    def test_what_only_tells_is_not_taken_back(self):
        desk = desk_with(a=SMALL)
        for line in ("show a", "life a", "hard a", "names"):
            desk.tell(line)
            self.assertEqual(desk.undoable(), 1)
        desk.tell("undo")
        self.assertEqual(desk.tell("names"), "none")

    def test_against_a_model(self):
        rng = random.Random(332)
        refused = 0
        for _ in range(40):
            desk, way = Desk(), [{}]
            for _ in range(40):
                line, behind = self.some_line(rng, way[-1])
                if line == "undo" and len(way) > 1:
                    way.pop()
                    self.assertEqual(desk.tell(line), "ok")
                elif behind is None:
                    self.assertRaises(SpentError, desk.tell, line)
                    refused += 1
                else:
                    self.assertEqual(desk.tell(line), "ok")
                    way.append(behind)
                self.assertEqual(seen(desk), ({name: flat(stand) for name, stand in way[-1].items()}, len(way) - 1))
        self.assertGreater(refused, 100)

    def some_line(self, rng, stands):
        """A line, and the stands behind it; None if it is refused (or an undo)."""
        name, word = rng.choice("abc"), rng.choice(["stand", "fresh", "drop", "ask", "ask", "make", "make", "make", "undo"])
        if word == "undo":
            return word, None
        if word in ("stand", "fresh"):
            stand = fresh(2, rng.randint(1, 3), 2, 1, 1, 1)
            told = flat(stand) if word == "stand" else f"2 {len(stand.blocks())} 2 1 1 1"
            return f"{word} {name} {told}", {**stands, name: stand}
        if word == "drop":
            return f"drop {name}", {key: stands[key] for key in stands if key != name} if name in stands else None
        if word == "ask":
            key = rng.randrange(3)
            let = name in stands and stands[name].asked() is None and key < 2
            return f"ask {name} {key}", {**stands, name: stands[name].put(key)} if let else None
        act, reply = rng.choice([("write", 0), ("write", 1), ("copy", 0, 1), ("erase", 0)]), rng.choice(slow.ORDER)
        let = name in stands and act in stands[name].acts() and reply in stands[name].replies(act)
        return f"make {name} " + row_text([(act, reply)]), {**stands, name: stands[name].after(act, reply)} if let else None


class Refused(unittest.TestCase):

    def assert_refused(self, desk, error, told, **fields):
        before = seen(desk)
        with self.subTest(told):
            with self.assertRaises(error) as caught:
                desk.tell(told)
            self.assertEqual(vars(caught.exception), fields)
            self.assertEqual(seen(desk), before)

    def test_no_line(self):
        for desk in (Desk(), desk_with(a=SMALL), desk_with(a=SMALL.put(0))):
            for line in NO_LINES:
                self.assert_refused(desk, NoLine, line)
            for name in NO_NAMES:
                for line in (f"stand {name} {TEXT}", f"drop {name}", f"fresh {name} 1 1 1 1 0 0", f"ask {name} 0", f"show {name}",
                             f"make {name} write 0 done", f"life {name}", f"good {name}", f"hard {name}"):
                    self.assert_refused(desk, NoLine, line)

    def test_no_line_for_wrong_integers(self):
        desk = desk_with(a=SMALL.put(0))
        for word in [word for word in NO_NUMBERS if word != "ever"]:
            self.assert_refused(desk, NoLine, f"ask a {word}")
            self.assert_refused(desk, NoLine, f"make a write {word} done")
            self.assert_refused(desk, NoLine, f"make a copy {word} 1 done")
            for at in range(6):
                sizes = ["1"] * 6
                sizes[at] = word
                self.assert_refused(desk, NoLine, "fresh a " + " ".join(sizes))

    def test_a_text_of_a_stand(self):
        desk = desk_with(a=SMALL)
        for name in ("a", "b"):
            self.assert_refused(desk, NoText, f"stand {name} ", line=0)
            self.assert_refused(desk, NoText, f"stand {name}  ", line=0)
            self.assert_refused(desk, NoText, f"stand {name} |", line=0)
            self.assert_refused(desk, NoText, f"stand {name} keys 1", line=1)
            self.assert_refused(desk, NoText, f"stand {name} {TEXT}|", line=5)
            self.assert_refused(desk, NoText, f"stand {name} {TEXT} ", line=4)
            self.assert_refused(desk, NoText, f"stand {name}  {TEXT}", line=0)
            self.assert_refused(desk, NoText, f"stand {name} " + TEXT.replace("block 0", "block  0"), line=2)
            self.assert_refused(desk, NoStand, f"stand {name} " + TEXT.replace("block 0", "block 100"), part="blocks")
            self.assert_refused(desk, NoStand, f"stand {name} " + TEXT.replace("keys 1", "keys 0"), part="keys")
            self.assert_refused(desk, NoStand, f"stand {name} {TEXT}|asked 1", part="asked")

    def test_sizes_of_a_fresh_one(self):
        desk = desk_with(a=SMALL)
        for name in ("a", "b"):
            for sizes, part in [("0 1 1 1 0 0", "keys"), ("10 99 99 999 99 99", "keys"), ("1 0 1 1 0 0", "blocks"),
                                ("1 10 1 1 99 99", "blocks"), ("1 1 0 1 0 0", "blocks"), ("1 1 7 1 0 0", "blocks"),
                                ("1 1 1 100 0 0", "blocks"), ("1 1 1 999 99 99", "blocks"), ("1 1 1 1 10 0", "fails"),
                                ("1 1 1 ever 999 999", "fails"), ("1 1 1 1 0 10", "cuts")]:
                self.assert_refused(desk, NoStand, f"fresh {name} {sizes}", part=part)

    def test_no_name_is_ahead_of_what_the_methods_raise(self):
        desk = desk_with(a=SMALL)
        for line in ("drop b", "ask b 0", "ask b 999", "make b write 0 done", "make b erase 8 late", "show b", "life b", "good b",
                     "hard b"):
            self.assert_refused(desk, NoName, line, name="b")
        self.assert_refused(Desk(), NoName, "show abcdefgh", name="abcdefgh")

    def test_what_the_methods_raise(self):
        desk = desk_with(a=SMALL, b=SMALL.put(0))
        self.assert_refused(desk, NoKey, "ask a 1")
        self.assert_refused(desk, NoKey, "ask a 999")
        self.assert_refused(desk, NotAtRest, "ask b 0")
        self.assert_refused(desk, NotAtRest, "ask b 999")
        self.assert_refused(desk, NotAtRest, "hard b")
        self.assert_refused(desk, NotAsked, "good a")
        self.assert_refused(desk, NoAct, "make a write 1 done")
        self.assert_refused(desk, NoAct, "make b write 0 done")
        self.assert_refused(desk, NoAct, "make b write 8 late")
        for reply in ("bad", "cut", "late"):
            self.assert_refused(desk, NoReply, f"make b write 1 {reply}")

    def test_too_many(self):
        desk = desk_with(a=fresh(9, 9, 6, 99, 9, 9), b=fresh(9, 9, 6, 99, 9, 9).put(0))
        for line in ("life a", "hard a", "life b", "good b"):
            self.assert_refused(desk, TooMany, line, most=20000)


if __name__ == "__main__":
    unittest.main()
