"""What holds over the whole program, and [35]: the examples."""

import random
import unittest

from spentblocks.advice import good_acts
from spentblocks.borders import goes_on, lone_life
from spentblocks.chips import Chip
from spentblocks.desk import Desk
from spentblocks.errors import PowerLost, Unserved, WentBad
from spentblocks.images import image_text, read_image
from spentblocks.lives import enemy_plan, life, plan
from spentblocks.matches import Match
from spentblocks.policies import policy_life, policy_row
from spentblocks.records import record
from spentblocks.stands import Stand, fresh, stand_of
from spentblocks.stores import Store, looked, stand_seen
from spentblocks.sums import crossed, made_good, worst
from spentblocks.texts import read_row, row_text, stand_text
from tests import slow, slowchip, slowmore
from tests.test_storefacts import book_of

WORDS = ("first", "greedy", "even")


def chip_of(shape):
    """A chip whose stand has this shape; the value of each key is the key, under the number 1 more."""
    rows = [f"chip {len(shape[1])} {len(shape[1][0][1])}"]
    for left, pages in shape[1]:
        rows.append("block " + ("bad" if left is None else str(left)))
        for page in pages:
            told = "".join(f"{byte:02x}" for byte in record(page, page + 1, (page,))) if isinstance(page, int) else "-"
            rows.append("  page " + ("free" if page == "free" else told))
    return read_image("\n".join(rows))


def at_rest(stand):
    return stand_of(stand.shape()[:4] + (None,))


class Examples(unittest.TestCase):

    def test_lives(self):
        blocks = [(1, (0,)), (0, ("free",))]
        self.assertEqual([life(Stand(1, blocks, *losses)) for losses in ((0, 0), (1, 0), (0, 1))], [2, 0, 0])
        self.assertEqual([lone_life([1, 1], 0), lone_life([3, 1], 0), lone_life([1, 3], 0)], [2, 2, 3])
        self.assertEqual(Stand(1, blocks, 0, 0).put(0).acts(), [("write", 1), ("copy", 0, 1)])
        self.assertEqual([policy_life(Stand(1, blocks, 0, 0), word) for word in ("first", "greedy")], [2, 1])

    def test_going_on(self):
        self.assertIs(goes_on(Stand(1, [("ever", (0,)), ("ever", ("free",))], 0, 0)), True)
        self.assertIs(goes_on(Stand(2, [("ever", (0, 1)), ("ever", ("old", "old"))], 0, 0)), True)
        self.assertIs(goes_on(Stand(3, [("ever", (0, 1)), ("ever", (2, "free"))], 0, 0)), False)

    def test_sums_records_and_texts(self):
        sums = [[(0, 0), (1, 0), (2, 0)]]
        self.assertEqual(made_good(sums, [1]), ("made", {(1, 0): [(0, 0), (2, 0)]}))
        self.assertEqual(made_good(sums, [1, 2]), ("alike", [(1, 0), (2, 0)]))
        self.assertEqual(record(0, 1, (7,))[:8], (165, 0, 0, 0, 0, 1, 1, 7))
        self.assertEqual(stand_text(Stand(1, [(1, (0,)), (None, ("old",))], 0, 2, asked=0)),
                         "keys 1\nblock 1 0\nblock bad old\nfails 0\ncuts 2\nasked 0")


class Alike(unittest.TestCase):

    def test_told_to_a_desk_played_as_a_match_and_run_on_a_chip(self):
        rng = random.Random(361)
        made = {}
        for _ in range(150):
            shape = slow.some_shape(rng, (0, 1, 2, "ever", "ever", None))
            shape = shape[:2] + (rng.randint(0, 9), rng.randint(0, 9)) + shape[4:]
            match, desk, chip = Match(stand_of(shape)), Desk(), chip_of(shape)
            desk.tell("stand a " + stand_text(match.stand()).replace("\n", "|"))
            for _ in range(30):
                if match.stand().asked() is None:
                    match.ask(rng.randrange(shape[0]))
                    desk.tell(f"ask a {match.row()[-1]}")
                elif match.stand().acts():
                    item = (rng.choice(match.stand().acts()), rng.choice(slow.replies(match.stand().shape())))
                    self.run_act(chip, match.stand(), *item)
                    match.make(*item)
                    desk.tell("make a " + row_text([item]))
                    made[item[0][0], item[1]] = made.get((item[0][0], item[1]), 0) + 1
                stand = match.stand()
                self.assertEqual(desk.tell("show a"), stand_text(stand).replace("\n", "|"))
                self.assertEqual(stand_seen(chip, stand.many(), stand.fails(), stand.cuts()), at_rest(stand))
            self.assertEqual(read_row(row_text(match.row())), match.row())
            self.assertEqual(desk.undoable(), len(match) + 1)
        self.assertEqual(len(made), 12)
        self.assertGreater(min(made.values()), 5, made)

    def run_act(self, chip, stand, act, word):
        """Makes the act of a stand on the chip, with this reply."""
        chip.tell([slowchip.told_reply(word, (9, 9))])
        seen = looked(chip, 9)
        number = 1 + max([found[2] for found in seen.values()], default=0)
        key = stand.asked() if act[0] == "write" else act[1]
        value = (77, number) if act[0] == "write" or key not in seen else seen[key][3]
        error = {"bad": WentBad, "cut": PowerLost, "late": PowerLost}.get(word)
        if act[0] == "erase":
            call, told = chip.erase, (act[1],)
        else:
            call, told = chip.write, (act[-1], record(key, number, value))
        if error is None:
            call(*told)
        else:
            self.assertRaises(error, call, *told)

    def test_what_is_told_of_both(self):
        for shape in slow.some_shapes(362, 60, 300, lefts=(0, 1, 2, "ever")):
            stand, desk = stand_of(shape), Desk()
            desk.tell("stand a " + stand_text(stand).replace("\n", "|"))
            told = desk.tell("life a")
            self.assertEqual(None if told == "ever" else int(told), life(stand))
            if shape[4] is None:
                chip = read_image(image_text(chip_of(shape)))
                self.assertEqual(life(stand_seen(chip, shape[0], shape[2], shape[3])), life(stand))
            elif life(stand) != 0:
                lines = desk.tell("good a").split("; ")
                self.assertEqual([read_row(line + " done")[0][0] for line in lines], good_acts(stand))
                self.assertIn(Match(stand).best(), good_acts(stand))


class OnChips(unittest.TestCase):

    def run_row(self, shape, policy, row):
        """Runs the keys and replies of a policy's row on a chip; returns how many puts were served, and how it ends."""
        chip, served, end = chip_of(shape), 0, None
        fails, cuts = shape[2], shape[3]
        puts = []
        for item in row:
            if isinstance(item, int):
                puts.append((item, []))
            else:
                puts[-1][1].append(item)
        store = Store(chip, shape[0], policy)
        for key, words in puts:
            self.assertIsNone(end)
            chip.tell([slowchip.told_reply(word) for word in words])
            try:
                store.put(key, (1,), fails, cuts)
                served += 1
            except PowerLost:
                store, cuts = Store(chip, shape[0], policy), cuts - 1
            except Unserved as error:
                end = error.key
                self.assertEqual(end, key)
            fails -= words.count("bad")
            self.assertEqual(chip.told(), [])
        return served, end

    def test_rows_with_which_policies_end(self):
        runs = 0
        for shape in slow.some_shapes(363, 120, 300, lefts=(0, 1, 2, "ever")):
            if shape[4] is not None:
                continue
            for policy in WORDS + (book_of(plan(stand_of(shape))),):
                row = policy_row(stand_of(shape), policy)
                if row is not None:
                    served, end = self.run_row(shape, policy, row)
                    self.assertEqual(served, policy_life(stand_of(shape), policy))
                    self.assertIsNotNone(end)
                    runs += served > 0
        self.assertGreater(runs, 30)

    def enemy_row(self, shape, thing, policy):
        """The keys and replies of an enemy's plan against a policy, till this has no act or comes to a stand again."""
        row, seen = [], []
        while True:
            choice = thing[shape][1]
            if shape[4] is None:
                row.append(choice)
                shape, seen = shape[:4] + (choice,), []
                continue
            act = slowmore.policy_act(shape, policy)
            if act is None or shape in seen:
                return row
            seen.append(shape)
            row.append(choice[act])
            shape = slow.after(shape, act, choice[act])[0]

    def test_plans_of_both_sides(self):
        runs = {}
        for shape in slow.some_shapes(364, 160, 300, lefts=(0, 1, 2, 3, "ever")):
            many = life(stand_of(shape))
            if shape[4] is not None or many is None:
                continue
            thing, book = enemy_plan(stand_of(shape)), book_of(plan(stand_of(shape)))
            for policy in WORDS + (book,):
                served, end = self.run_row(shape, policy, self.enemy_row(shape, thing, policy))
                self.assertIsNotNone(end)
                self.assertLessEqual(served, many)
                if policy == book:
                    self.assertEqual(served, many)
                    runs[many] = runs.get(many, 0) + 1
        self.assertGreater(sum(runs.values()) - runs[0], 15, runs)

    def test_a_fresh_chip_has_a_fresh_stand(self):
        for blocks, pages, left in [(1, 1, 0), (9, 6, 99), (3, 2, "ever")]:
            self.assertEqual(stand_seen(Chip(blocks, pages, left), 9, 3, 4), fresh(9, blocks, pages, left, 3, 4))


class MadeGood(unittest.TestCase):

    def added(self, contents):
        """Contents of one length, added bit by bit."""
        found = [0] * len(contents[0])
        for content in contents:
            found = [one ^ other for one, other in zip(found, content)]
        return tuple(found)

    def test_a_lost_block_of_a_chip(self):
        rng = random.Random(365)
        for blocks in range(2, 10):
            for pages in (1, 2, 6):
                chip = Chip(blocks, pages, 1)
                for p in range(pages):
                    contents = [record(b % 9, p + 1, (rng.randrange(256),) * 7) for b in range(blocks - 1)]
                    for b, content in enumerate(contents + [self.added(contents)]):
                        chip.write(b, content)
                sums = crossed(blocks, pages)
                for lost in range(blocks):
                    word, ways = made_good(sums, [lost])
                    self.assertEqual(word, "made")
                    self.assertEqual(sorted(ways), [(lost, p) for p in range(pages)])
                    for (b, p), way in ways.items():
                        self.assertEqual(self.added([chip.read(*page) for page in way]), chip.read(b, p))
                self.assertEqual(worst(sums), [0, 1])

    def test_sums_of_all_kinds(self):
        rng = random.Random(366)
        words = {}
        for _ in range(80):
            pages = [(b, p) for b in range(rng.randint(2, 4)) for p in range(2)]
            sums = [sorted(rng.sample(pages, rng.randint(2, len(pages)))) for _ in range(rng.randint(1, 3))]
            bits = [rng.choice(list(slowmore.contents(sums))) for _ in range(8)]
            contents = {page: sum(content[page] << at for at, content in enumerate(bits)) for page in bits[0]}
            lost = sorted(rng.sample(range(4), rng.randint(1, 2)))
            word, told = made_good(sums, lost)
            words[word] = words.get(word, 0) + 1
            if word == "made":
                for page, way in told.items():
                    self.assertEqual(self.added([(0,)] + [(contents[other],) for other in way]), (contents[page],))
            else:
                changed = {page: contents[page] ^ (64 if page in told else 0) for page in contents}
                for row in sums:
                    self.assertEqual(self.added([(changed[page],) for page in row]), (0,))
        self.assertGreater(min(words.values()), 15, words)


if __name__ == "__main__":
    unittest.main()
