"""Plays: runs of hands and houses, some of which lie, over letters that are brought in any sequence."""

from seenatonce.checks import ascends, check_store, is_count, is_list, is_place
from seenatonce.crowds import Liar, Picks
from seenatonce.disks import Disk
from seenatonce.errors import BadFuse, BadHouse, BadLiars, BadPicks, BadWho, Fell, Gone, NotGone
from seenatonce.hands import Hand
from seenatonce.houses import House
from seenatonce.letters import is_hand_of, is_house_of
from seenatonce.mending import check_hand
from seenatonce.roads import Road
from seenatonce.tables import check_deed, check_state, check_table
from seenatonce.trust import Trust


def _check_play(table, begin, store, liars, picks):
    check_table(table)
    check_state(table, begin)
    check_store(store)
    if not is_list(liars) or not all([is_place(house, store[1]) for house in liars]) or not ascends(liars):
        raise BadLiars("no list of ascending numbers of houses")
    if not is_list(picks) or not all([is_count(number) for number in picks]):
        raise BadPicks("no list of numbers from 0 on")


class Play:
    """A run of hands and houses, event by event."""

    def __init__(self, table, begin, store, liars, picks):
        _check_play(table, begin, store, liars, picks)
        self.table = table
        self.begin = begin
        self.store = store
        self.trust = Trust()
        self.road = Road(store)
        self.liars = tuple(liars)
        self._picks = Picks(picks)
        self._moment = 0
        self._crowds = {house: Liar(self.trust, store, house) for house in self.liars}
        hands = [("hand", number) for number in range(store[0])]
        houses = [("house", number) for number in range(store[1]) if number not in self.liars]
        self._disks = {who: Disk({}, None) for who in hands + houses}
        # Those that are not gone.
        self._up = {who: self._coming_up(who) for who in self._disks}
        # The calls that the history tells, by the moments of their begins; of each hand that of its last one.
        self._calls = {}
        self._last = {}
        self._answers = {}

    def call(self, hand, deed):
        """The hand begins the deed, and its letters are sent."""
        check_hand(self.store, hand)
        check_deed(self.table, deed)
        letters = self._one_up(("hand", hand)).call(deed)
        self._moment += 1
        self._calls[self._moment] = (hand, self._moment, None, deed, None)
        self._last[hand] = self._moment
        self._send(letters)

    def bring(self, number):
        """The letter with this number is heard by its receiver, if that is not gone; its answers are sent."""
        letter = self.road.letter(number)
        self._moment += 1
        kind, receiver = letter[1]
        if kind == "house" and receiver in self.liars:
            self._send(self._crowds[receiver].hear(letter, self._picks))
        elif letter[1] in self._up:
            self._send(self._heard(letter[1], letter))
            if kind == "hand":
                self._look_at(receiver)

    def again(self, hand):
        """The letters of the hand's open round are sent again, to houses of which no right answer came."""
        check_hand(self.store, hand)
        letters = self._one_up(("hand", hand)).again()
        self._moment += 1
        self._send(letters)

    def fall(self, who, writes):
        """A hand or a house falls: now, if writes is None, or at the write behind so many."""
        self._check_who(who)
        if writes is not None and not is_count(writes):
            raise BadFuse("no number of writes")
        disk = self._one_up(who).disk
        self._moment += 1
        if writes is None:
            del self._up[who]
        else:
            disk.fuse = writes

    def back(self, who):
        """One that is gone comes back."""
        self._check_who(who)
        if who in self._up:
            raise NotGone("it is not gone")
        self._moment += 1
        self._disks[who] = Disk(self._disks[who].cells(), None)
        kind, number = who
        if kind == "hand":
            self._leave_out(number)
        self._up[who] = self._coming_up(who)
        if kind == "hand":
            self._send(self._up[who].again())
            self._look_at(number)

    def is_gone(self, who):
        """Whether a hand or a house is gone."""
        self._check_who(who)
        return who not in self._up

    def cells_of(self, who):
        """What the disk of a hand or a house holds."""
        self._check_who(who)
        return self._disks[who].cells()

    def moment(self):
        """The moment of the last event."""
        return self._moment

    def row_of_house(self, house):
        """The row of a house that keeps to its rules; None while it is gone."""
        if not is_place(house, self.store[1]) or house in self.liars:
            raise BadHouse("no house that keeps to its rules")
        return self._up[("house", house)].row() if ("house", house) in self._up else None

    def hand_at(self, hand):
        """The Hand; None while it is gone."""
        check_hand(self.store, hand)
        return self._up.get(("hand", hand))

    def answer(self, hand):
        """What the hand answered last; None ahead of that."""
        check_hand(self.store, hand)
        return self._answers.get(hand)

    def history(self):
        """The calls, by their begins."""
        return list(self._calls.values())

    def _check_who(self, who):
        if not is_hand_of(self.store, who) and (not is_house_of(self.store, who) or who[1] in self.liars):
            raise BadWho("no hand and no house that keeps to its rules")

    def _one_up(self, who):
        if who not in self._up:
            raise Gone("it is gone")
        return self._up[who]

    def _coming_up(self, who):
        """A Hand or a House on the disk of one that is not up."""
        kind, number = who
        if kind == "hand":
            return Hand(self.trust, self.store, self.table, self.begin, number, self._disks[who])
        return House(self.trust, self.store, number, self._disks[who])

    def _send(self, letters):
        for letter in letters:
            self.road.send(letter)

    def _heard(self, who, letter):
        """The letters that follow upon a letter; none, if the one that hears it falls."""
        try:
            return self._up[who].hear(letter)
        except Fell:
            del self._up[who]
            return []

    def _look_at(self, hand):
        """Takes down what the hand answers."""
        told = self._up[("hand", hand)].answer() if ("hand", hand) in self._up else None
        if told is None:
            return
        self._answers[hand] = told
        _, begun, end, deed, _ = self._calls[self._last[hand]]
        if told[0] == "done" and end is None:
            self._calls[begun] = (hand, begun, self._moment, deed, told[1])

    def _leave_out(self, hand):
        """Leaves out the call of a hand that fell amid it, if no sheet was written for it."""
        begun = self._last.get(hand)
        if begun is not None and self._calls[begun][2] is None and self._disks[("hand", hand)].read("sheet") is None:
            del self._calls[begun]
            del self._last[hand]
