"""Houses that keep to their rules: they keep the sheets of the hands, and say under their seals what they have."""

from seenatonce.checks import is_place
from seenatonce.disks import check_disk
from seenatonce.errors import BadHouse, BadLetter
from seenatonce.letters import is_letter
from seenatonce.sheets import closes, no_sheets, row_of, sheets_between, taken_in
from seenatonce.trust import check_book


class House:
    """A house that keeps its stock and its past on a disk, and answers the letters of hands."""

    def __init__(self, trust, store, number, disk):
        check_book(trust, store)
        if not is_place(number, store[1]):
            raise BadHouse("no house of the store")
        check_disk(disk)
        self.trust = trust
        self.store = store
        self.number = number
        self.disk = disk

    def stock(self):
        """The stock that the disk holds."""
        held = self.disk.read("stock")
        return no_sheets(self.store) if held is None else held

    def past(self):
        """The names of its sayings, as the disk holds them."""
        held = self.disk.read("past")
        return () if held is None else held

    def row(self):
        """The row of its stock."""
        return row_of(self.stock())

    def hear(self, letter):
        """The list of the letters with which it answers a letter, none or one."""
        if not is_letter(self.store, letter):
            raise BadLetter("no letter")
        sender, receiver, body = letter
        if receiver != ("house", self.number):
            return []
        answer = self._asked(body) if body[0] == "ask" else self._told(body)
        return [] if answer is None else [(receiver, sender, answer)]

    def _asked(self, body):
        """The body of the answer to an asking letter; None if there is none."""
        _, life, turn, row, about = body
        if not all([self.trust.is_name(name) for name in about]):
            return None
        saying = self._say(about)
        stock = self.stock()
        return ("have", life, turn, sheets_between(stock, row, row_of(stock)), saying)

    def _told(self, body):
        """The body of the answer to a letter that tells sheets; None if there is none."""
        _, life, turn, names = body
        stock = taken_in(self.trust, self.store, self.stock(), names)
        if not closes(self.trust, stock, row_of(stock)):
            return None
        if stock != self.stock():
            self.disk.write("stock", stock)
        return ("kept", life, turn, self._say(()))

    def _say(self, about):
        """The name of a new saying about these names."""
        past = self.past()
        saying = self.trust.name(("saying", self.number, len(past) + 1, self.row(), past, about))
        # Written ahead of the seal: a house that fell between the two would otherwise seal this number once more.
        self.disk.write("past", past + (saying,))
        self.trust.seal(("house", self.number), saying)
        return saying
