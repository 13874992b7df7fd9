"""What the tests of hands share: a hand whose letters a test answers, and a town of hands and houses."""

from seenatonce.disks import Disk
from seenatonce.errors import Fell
from seenatonce.hands import Hand
from seenatonce.houses import House
from seenatonce.tables import counting_table
from tests.helpers import Book

TABLE = counting_table(3)


def sealed_sheets(trust):
    """The contents of all sheets that their hands sealed, by their names."""
    told = {}
    for k in range(trust.size()):
        content = trust.content(("name", k))
        if isinstance(content, tuple) and content[:1] == ("sheet",) and trust.sealed(("hand", content[1]), ("name", k)):
            told[("name", k)] = content
    return told


def numbers_sealed(trust):
    """The pairs of a hand and a number of all sheets that are sealed."""
    return [content[1:3] for content in sealed_sheets(trust).values()]


class Stage:
    """A hand, and a book in which the houses say what a test lets them say."""

    def __init__(self, store, table=TABLE, begin=0, number=0, cells=None, fuse=None):
        self.store, self.table, self.begin, self.number = store, table, begin, number
        self.book = Book(store)
        self.trust = self.book.trust
        self.need = self.book.need
        self.disk = Disk(cells or {}, fuse)
        self.hand = None

    def up(self):
        self.hand = Hand(self.trust, self.store, self.table, self.begin, self.number, self.disk)
        return self.hand

    def back(self, fuse=None):
        """The hand comes up on a disk with the same cells."""
        self.disk = Disk(self.disk.cells(), fuse)
        return self.up()

    def asked(self):
        """The letters of the open round to houses of which no right answer came, by houses."""
        return {letter[1][1]: letter for letter in self.hand.again()}

    def have(self, house, row, names=(), about=None, said=None):
        """The answer of a house to the open round of asking."""
        sender, receiver, (_, life, turn, _, told) = self.asked()[house]
        saying = said or self.book.say(house, row, told if about is None else about)
        return (receiver, sender, ("have", life, turn, names, saying))

    def kept(self, house, row, about=(), said=None):
        """The answer of a house to the open round of telling."""
        sender, receiver, (_, life, turn, _) = self.asked()[house]
        return (receiver, sender, ("kept", life, turn, said or self.book.say(house, row, about)))

    def collect(self, rows, names=(), houses=None):
        """Houses answer a collect, with one row or a row for each; the letters behind the last answer."""
        houses = range(self.need) if houses is None else houses
        rows = [rows] * self.need if isinstance(rows, tuple) else rows
        told = [self.hand.hear(self.have(house, row, names)) for house, row in zip(houses, rows)]
        assert not any(told[:-1])
        return told[-1]

    def keep(self, row, houses=None):
        """Houses keep what they are told; the letters behind the last answer."""
        houses = range(self.need) if houses is None else houses
        told = [self.hand.hear(self.kept(house, row)) for house in houses]
        assert not any(told[:-1])
        return told[-1]

    def whole_call(self, deed, row, names=()):
        """A call that all goes well: the row is collected, and again if it is not the last one."""
        self.hand.call(deed)
        if self.collect(row, names)[0][2][0] == "keep" and self.disk.read("sheet") is None:
            self.keep(row)
            self.collect(row)
        self.keep(self.told_row())
        return self.hand.answer()

    def told_row(self):
        """The row of the sheet that is being told, with this sheet."""
        row = self.trust.content(self.disk.read("sheet"))[5][-1][0]
        return (*row[:self.number], row[self.number] + 1, *row[self.number + 1:])

    def marks(self):
        """What is not changed by what is no right answer."""
        return (self.hand.again(), self.hand.answer(), self.disk.cells(), self.disk.fuse, self.hand.life, self.trust.size())


class Town:
    """Hands and houses that keep to their rules, whose letters are brought as a test tells."""

    def __init__(self, store, table=TABLE, begin=0):
        self.store, self.table, self.begin = store, table, begin
        self.trust = Book(store).trust
        self.disks = {("hand", h): Disk({}, None) for h in range(store[0])}
        self.disks.update({("house", s): Disk({}, None) for s in range(store[1])})
        self.houses = [House(self.trust, store, s, self.disks[("house", s)]) for s in range(store[1])]
        self.hands = [self.hand_on(h) for h in range(store[0])]

    def hand_on(self, number):
        return Hand(self.trust, self.store, self.table, self.begin, number, self.disks[("hand", number)])

    def fall(self, number, fuse=None):
        """The hand falls and comes back on a disk with the same cells, again and again as its fuse lets it."""
        while True:
            self.disks[("hand", number)] = Disk(self.disks[("hand", number)].cells(), fuse)
            try:
                self.hands[number] = self.hand_on(number)
                return self.hands[number].again()
            except Fell:
                fuse = None

    def round(self, letters, houses=None):
        """The letters are brought to these houses, and what these answer to the hand; the letters that follow."""
        further = []
        for letter in letters:
            house = letter[1][1]
            if houses is None or house in houses:
                for answer in self.houses[house].hear(letter):
                    further += self.hands[answer[1][1]].hear(answer)
        return further

    def finish(self, letters, houses=None):
        """Round by round, until none follows; how many of them asked."""
        asked = 0
        while letters:
            asked += letters[0][2][0] == "ask"
            letters = self.round(letters, houses)
        return asked

    def call(self, number, deed, houses=None):
        """A whole call: its answer."""
        self.finish(self.hands[number].call(deed), houses)
        return self.hands[number].answer()
