"""Points 51, 62 to 64, 72 and 90 in whole runs: hands and houses that fall, letters that are lost, doubled and late,
and houses that lie."""

import random
import unittest
from itertools import combinations

from seenatonce.disks import Disk
from seenatonce.errors import Fell
from seenatonce.hands import Hand
from seenatonce.houses import House
from seenatonce.lots import lot_of
from seenatonce.roads import Road
from seenatonce.sayings import convicted, is_paper, paper_of
from seenatonce.sheets import row_of
from seenatonce.tables import cells_table, counting_table, greatest_table, growing_table
from seenatonce.trust import Trust
from seenatonce.webs import is_borne
from tests.hands_helpers import sealed_sheets
from tests.helpers import below, parted
from tests.lots_helpers import EXAMPLE
from tests.test_cells import has_order

TABLES = [counting_table(3), counting_table(30), greatest_table(4), growing_table(3), cells_table(2, 2), EXAMPLE]
MOST_CALLS = 14


class Call:
    """What a test knows of a call: when it began and ended, its collects, the number of its sheet."""

    def __init__(self, hand, begin, deed):
        self.hand, self.begin, self.deed = hand, begin, deed
        self.end = self.answer = self.number = None
        self.collects = 0


class World:
    """A run: drawn events, with a look at each hand behind each of them."""

    def __init__(self, case, draw, store, table, liars=()):
        self.case, self.draw, self.store, self.table, self.liars = case, draw, store, table, liars
        self.begin = draw.randrange(len(table[0]))
        self.trust, self.road, self.moment = Trust(), Road(store), 0
        self.disks = {who: Disk({}, None) for who in self.all_hands() + self.honest()}
        self.versions = {s: [House(self.trust, store, s, Disk({}, None))] for s in liars}
        self.up = {}
        self.calls, self.open, self.taken, self.lied = [], {}, {}, {}
        # The letters of one hand are brought late, so that others are ahead of it.
        self.slow = draw.randrange(2 * store[0])
        self.rows = {h: [] for h in range(store[0])}
        for who in self.disks:
            self.come_back(who, self.fuse())

    def all_hands(self):
        return [("hand", h) for h in range(self.store[0])]

    def honest(self):
        return [("house", s) for s in range(self.store[1]) if s not in self.liars]

    def fuse(self):
        return self.draw.choice((None, None, None, self.draw.randint(0, 9), self.draw.randint(0, 40)))

    def send(self, letters):
        for letter in letters:
            self.road.send(letter)

    # Falls.

    def gone(self, who):
        self.up.pop(who, None)
        self.lied.pop(who[1] if who[0] == "hand" else None, None)

    def come_back(self, who, fuse):
        self.disks[who] = Disk(self.disks[who].cells(), fuse)
        kind, number = who
        try:
            if kind == "house":
                self.up[who] = House(self.trust, self.store, number, self.disks[who])
            else:
                self.forget_unwritten(number)
                self.up[who] = Hand(self.trust, self.store, self.table, self.begin, number, self.disks[who])
                self.send(self.up[who].again())
                self.look_at(number, [])
        except Fell:
            self.gone(who)

    def forget_unwritten(self, number):
        """A call that fell ahead of its sheet's write leaves no sheet; another one ends in a later life."""
        call = self.open.get(number)
        if call is not None and self.disks[("hand", number)].read("sheet") is None:
            self.case.assertNotIn((number, call.number), [content[1:3] for content in sealed_sheets(self.trust).values()])
            self.calls.remove(self.open.pop(number))

    # Events.

    def guarded(self, who, event):
        """An event of one that may fall amid it: then nothing is sent."""
        try:
            letters = event()
        except Fell:
            if who[0] == "hand":
                self.look_at_rows(who[1], self.open.get(who[1]))
            self.gone(who)
            return
        self.send(letters)
        if who[0] == "hand":
            self.look_at(who[1], letters)

    def call(self, number):
        who = ("hand", number)
        if who in self.up and number not in self.open and number not in self.lied and len(self.calls) < MOST_CALLS:
            call = Call(number, self.moment, self.draw.randrange(len(self.table)))
            self.calls.append(call)
            self.open[number] = call
            call.number = len(self.disks[who].cells().get("stock", ((),) * self.store[0])[number]) + 1
            self.guarded(who, lambda: self.up[who].call(call.deed))

    def bring(self, number):
        letter = self.road.letter(number)
        who = letter[1]
        if who[0] == "house" and who[1] in self.liars:
            self.send(self.lie(self.versions[who[1]], letter))
        elif who in self.up:
            self.guarded(who, lambda: self.up[who].hear(letter))

    def lie(self, versions, letter):
        """One of the versions of a house that lies hears the letter, a copy of it, or one with another's past."""
        draw = self.draw
        way = draw.choice((0, 0, 0, 1, 2, 3))
        version = draw.choice(versions)
        if way == 1 and len(versions) < 8:
            version = House(self.trust, self.store, version.number, Disk(version.disk.cells(), None))
            versions.append(version)
        if way == 2:
            version.disk.write("past", draw.choice(versions).past())
        return [] if way == 3 else version.hear(letter)

    def step(self):
        self.moment += 1
        draw, count = self.draw, self.road.count()
        kind = draw.random()
        if kind < 0.06 or not count:
            self.call(draw.randrange(self.store[0]))
        elif kind < 0.86:
            late = draw.random() < 0.1
            number = draw.randrange(count) if late else max(0, count - 1 - int(draw.expovariate(0.12)))
            if ("hand", self.slow) not in self.road.letter(number)[:2] or draw.random() < 0.3:
                self.bring(number)
        elif kind < 0.94:
            who = ("hand", draw.randrange(self.store[0]))
            if who in self.up:
                self.send(self.up[who].again())
        else:
            who = draw.choice(list(self.disks))
            if who in self.up and draw.random() < 0.1:
                self.gone(who)
            for other in [other for other in self.disks if other not in self.up and draw.random() < 0.7]:
                self.come_back(other, self.fuse())

    # What is looked at.

    def look_at(self, number, letters):
        case, hand = self.case, self.up[("hand", number)]
        call = self.open.get(number)
        if letters and letters[0][2][0] == "ask":
            call.collects += 1
            case.assertLessEqual(call.collects, self.store[0] + 1)
        self.look_at_rows(number, call)
        told = hand.answer()
        if told is not None and call is not None:
            if told[0] == "done":
                call.end, call.answer = self.moment, told[1]
                case.assertEqual(len(self.disks[("hand", number)].read("stock")[number]), call.number)
            else:
                self.check_lied(number, told[1])
                self.lied[number] = True
                self.calls.remove(call)
            del self.open[number]

    def look_at_rows(self, number, call):
        """The rows of the looks that a hand takes never fall, and are shown to it while its call is open."""
        cells = self.disks[("hand", number)].cells()
        looks = cells.get("looks", ())
        for look in looks:
            row = look[0]
            if look not in self.rows[number]:
                if self.rows[number]:
                    self.case.assertTrue(below(self.rows[number][-1][0], row) and self.rows[number][-1][0] != row)
                self.case.assertEqual(row[number], len(cells.get("stock", ((),) * self.store[0])[number]))
                self.rows[number].append(look)
                if look in self.taken:
                    # A lent look: it was shown to its own hand while this call was open.
                    self.case.assertTrue(self.liars and len(self.liars) > self.store[2] or self.taken[look] >= call.begin)
                self.taken.setdefault(look, self.moment)

    def check_lied(self, number, papers):
        case, (_, houses, lies) = self.case, self.store
        case.assertGreater(len(self.liars), lies)
        case.assertGreaterEqual(len(papers), houses - 2 * lies)
        case.assertEqual([house for house, _ in papers], sorted({house for house, _ in papers}))
        for house, paper in papers:
            case.assertIn(house, self.liars)
            case.assertIs(is_paper(self.trust, self.store, paper), True)
            case.assertEqual(convicted(self.trust, self.store, paper), house)

    def finish(self):
        """All come back, and the houses that keep to their rules hear what the hands send: then each call ends."""
        for who in list(self.disks):
            if who not in self.up or self.disks[who].fuse is not None:
                self.gone(who)
                self.come_back(who, None)
        for number in range(self.store[0]):
            rounds = 0
            while number in self.open:
                self.moment += 1
                rounds += 1
                self.case.assertLessEqual(rounds, 2 * (self.store[0] + 1))
                hand = self.up[("hand", number)]
                for letter in hand.again():
                    if letter[1] in self.up:
                        for answer in self.up[letter[1]].hear(letter):
                            self.look_at(number, hand.hear(answer))

    def check_sheets(self):
        """Each number is sealed once, and there are no gaps."""
        told = sorted(content[1:3] for content in sealed_sheets(self.trust).values())
        self.case.assertEqual(told, sorted(set(told)))
        for hand, number in told:
            self.case.assertTrue(number == 1 or (hand, number - 1) in told)

    def check_houses(self):
        """No two sayings of a house that keeps to its rules make a paper."""
        for _, house in self.honest():
            names = [("name", k) for k in range(self.trust.size()) if self.trust.sealed(("house", house), ("name", k))]
            for one, other in combinations(names[-12:], 2):
                self.case.assertIsNone(paper_of(self.trust, self.store, one, other))

    def check_served(self):
        """With at most lies liars: one lot that bears what is due, looks that hold what had ended, and an order."""
        case, hands = self.case, self.store[0]
        case.assertEqual(self.lied, {})
        names = {content[1:3]: name for name, content in sealed_sheets(self.trust).items()}
        stock = tuple(tuple(names[(h, k + 1)] for k in range(sum(hand == h for hand, _ in names))) for h in range(hands))
        rows = [look[0] for name in names.values() for look in self.trust.content(name)[5]]
        case.assertFalse(any(parted(one, other) for one, other in combinations(rows, 2)))
        lot = lot_of(self.trust, self.store, self.table, stock, row_of(stock))
        case.assertIs(is_borne(self.table, self.begin, lot), True)
        case.assertEqual(sorted(names), sorted((call.hand, call.number) for call in self.calls))
        for call in self.calls:
            deed, answer, row = lot[call.hand][call.number - 1]
            case.assertEqual((deed, answer), (call.deed, call.answer))
            for other in self.calls:
                if other.end is not None and other.end < call.begin:
                    case.assertGreaterEqual(row[other.hand], other.number)
                if call.end is not None and call.end < other.begin:
                    case.assertLess(row[other.hand], other.number)
        case.assertIs(has_order(self.table, self.begin, self.history()), True)

    def history(self):
        """The calls, each with unlike moments."""
        calls = enumerate(self.calls)
        return [(c.hand, 2000 * c.begin + k, None if c.end is None else 2000 * c.end + 1000 + k, c.deed, c.answer) for k, c in calls]


class WholeRuns(unittest.TestCase):
    def run_world(self, seed, store, liars, steps=1200):
        draw = random.Random(seed)
        world = World(self, draw, store, draw.choice(TABLES), liars)
        for _ in range(steps):
            world.step()
        return world

    def test_with_at_most_lies_liars(self):
        ended = lent = 0
        for seed in range(60):
            draw = random.Random(9000 + seed)
            store = draw.choice(((1, 1, 0), (2, 1, 0), (2, 2, 0), (2, 4, 1), (3, 3, 0), (3, 4, 1), (3, 5, 1), (4, 4, 1), (2, 7, 2), (6, 1, 0)))
            world = self.run_world(seed, store, tuple(draw.sample(range(store[1]), draw.randint(0, store[2]))))
            world.finish()
            world.check_sheets()
            world.check_houses()
            world.check_served()
            ended += sum(call.end is not None for call in world.calls)
            lent += sum(look in other for other in world.rows.values() for look in world.taken) - len(world.taken)
        self.assertGreater(ended, 250)
        self.assertGreater(lent, 0)

    def test_with_more_liars(self):
        lied = 0
        for seed in range(70):
            draw = random.Random(9500 + seed)
            store = draw.choice(((2, 1, 0), (2, 2, 0), (2, 4, 1), (3, 4, 1), (3, 5, 1)))
            liars = tuple(sorted(draw.sample(range(store[1]), draw.randint(store[2] + 1, store[1]))))
            world = self.run_world(1000 + seed, store, liars)
            world.check_sheets()
            world.check_houses()
            lied += len(world.lied)
        self.assertGreater(lied, 10)


if __name__ == "__main__":
    unittest.main()
