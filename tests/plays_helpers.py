"""What the tests of plays share: a play by the document's own words, and drawn events."""

from seenatonce.disks import Disk
from seenatonce.errors import Fell
from seenatonce.hands import Hand
from seenatonce.houses import House
from seenatonce.tables import cells_table, counting_table, greatest_table, growing_table
from seenatonce.trust import Trust
from tests.lots_helpers import EXAMPLE

TABLES = [counting_table(3), counting_table(30), greatest_table(4), growing_table(3), cells_table(2, 2), EXAMPLE]


class PlainPlay:
    """The words of [120] and [121], in the simplest form; all events are ones that can be."""

    def __init__(self, table, begin, store, liars, picks):
        self.table, self.begin, self.store, self.liars = table, begin, store, liars
        self.trust, self.road, self.moment = Trust(), [], 0
        self.picks, self.picked = picks, 0
        self.disk, self.one = {}, {}
        for who in [("hand", h) for h in range(store[0])] + [("house", s) for s in range(store[1]) if s not in liars]:
            self.disk[who] = Disk({}, None)
            self.one[who] = self.made(who)
        self.versions = {s: [House(self.trust, store, s, Disk({}, None))] for s in liars}
        self.calls, self.told = [], {}

    def made(self, who):
        if who[0] == "house":
            return House(self.trust, self.store, who[1], self.disk[who])
        return Hand(self.trust, self.store, self.table, self.begin, who[1], self.disk[who])

    def do(self, event):
        self.moment += 1
        kind, *rest = event
        getattr(self, "do_" + kind)(*rest)
        for (word, number), one in self.one.items():
            told = one.answer() if word == "hand" else None
            if told is not None:
                self.told[number] = told
                for call in self.calls:
                    if call[0] == number and call[2] is None and told[0] == "done":
                        call[2], call[4] = self.moment, told[1]

    def do_call(self, hand, deed):
        self.calls.append([hand, self.moment, None, deed, None])
        self.road += self.one[("hand", hand)].call(deed)

    def do_again(self, hand):
        self.road += self.one[("hand", hand)].again()

    def do_bring(self, number):
        letter = self.road[number]
        who = letter[1]
        if who[0] == "house" and who[1] in self.liars:
            self.road += self.lie(self.versions[who[1]], letter)
        elif who in self.one:
            try:
                self.road += self.one[who].hear(letter)
            except Fell:
                del self.one[who]

    def do_fall(self, who, writes):
        if writes is None:
            del self.one[who]
        else:
            self.disk[who].fuse = writes

    def do_back(self, who):
        self.disk[who] = Disk(self.disk[who].cells(), None)
        if who[0] == "hand" and self.disk[who].read("sheet") is None:
            self.calls = [call for call in self.calls if call[0] != who[1] or call[2] is not None]
        self.one[who] = self.made(who)
        if who[0] == "hand":
            self.road += self.one[who].again()

    def pick(self, many):
        if not self.picks:
            return 0
        self.picked += 1
        return self.picks[(self.picked - 1) % len(self.picks)] % many

    def lie(self, versions, letter):
        way = self.pick(4)
        if way == 3:
            return []
        version = versions[self.pick(len(versions))]
        if way == 1 and len(versions) < 8:
            version = House(self.trust, self.store, version.number, Disk(version.disk.cells(), None))
            versions.append(version)
        elif way == 2:
            version.disk.write("past", versions[self.pick(len(versions))].past())
        return version.hear(letter)

    def shows(self):
        """What a Play tells of all this."""
        cells = {who: disk.cells() for who, disk in self.disk.items()}
        rows = {s: self.one[("house", s)].row() if ("house", s) in self.one else None for s in range(self.store[1]) if s not in self.liars}
        answers = [self.told.get(hand) for hand in range(self.store[0])]
        return (self.moment, [tuple(call) for call in self.calls], list(self.road), cells, [who in self.one for who in self.disk], rows, answers)


def all_of(play):
    """All hands, and all houses that are no liars."""
    hands, houses, _ = play.store
    return [("hand", h) for h in range(hands)] + [("house", s) for s in range(houses) if s not in play.liars]


def shown(play):
    """The same of a Play."""
    letters = [play.road.letter(number) for number in range(play.road.count())]
    cells = {who: play.cells_of(who) for who in all_of(play)}
    rows = {number: play.row_of_house(number) for kind, number in all_of(play) if kind == "house"}
    answers = [play.answer(hand) for hand in range(play.store[0])]
    return (play.moment(), play.history(), letters, cells, [not play.is_gone(who) for who in all_of(play)], rows, answers)


def do(play, event):
    kind, *rest = event
    return getattr(play, kind)(*rest)


class Events:
    """Drawn events that can be, of one play; a slow hand's letters come late, so that others are ahead of it."""

    def __init__(self, draw, play, most_calls=14, falls=0.06):
        self.draw, self.play, self.most_calls, self.falls = draw, play, most_calls, falls
        self.slow = draw.randrange(2 * play.store[0])
        self.called = 0

    def next(self):
        draw, play = self.draw, self.play
        while True:
            kind, count = draw.random(), play.road.count()
            hand = draw.randrange(play.store[0])
            up = play.hand_at(hand)
            if kind < 0.06 or not count:
                told = play.answer(hand)
                if up is not None and not up.again() and self.called < self.most_calls and not (told and told[0] == "lied" and up.answer()):
                    self.called += 1
                    return ("call", hand, draw.randrange(len(play.table)))
            elif kind < 0.86:
                late = draw.random() < 0.1
                number = draw.randrange(count) if late else max(0, count - 1 - int(draw.expovariate(0.12)))
                if ("hand", self.slow) not in play.road.letter(number)[:2] or draw.random() < 0.3:
                    return ("bring", number)
            elif kind < 1 - self.falls:
                if up is not None:
                    return ("again", hand)
            else:
                who = draw.choice(all_of(play))
                if play.is_gone(who):
                    return ("back", who)
                if draw.random() < 0.4:
                    return ("fall", who, draw.choice((None, draw.randint(0, 9), draw.randint(0, 30))))
