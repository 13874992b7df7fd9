"""Hands that keep to their rules: they call deeds, collect what houses have, and tell their sheets."""

from seenatonce.checks import below, need_of
from seenatonce.court import named, went_back
from seenatonce.disks import check_disk
from seenatonce.errors import Busy, Lied
from seenatonce.letters import is_letter
from seenatonce.lots import lot_up_to
from seenatonce.mending import cells_of, check_hand, mended
from seenatonce.rounds import Round
from seenatonce.rows import first_parted, on_one_line, one_more
from seenatonce.sayings import about_in, house_in, is_told, row_in
from seenatonce.sheets import answer_of_sheet, closes, looks_told, noughts, own_look, row_of, sheets_between, taken_in
from seenatonce.spans import row_had, span_of
from seenatonce.tables import check_deed, check_state, check_table
from seenatonce.trust import check_book
from seenatonce.webs import state_behind


def _with_sheet(stock, hand, name):
    """The stock with one sheet more of the hand."""
    return stock[:hand] + (stock[hand] + (name,),) + stock[hand + 1:]


def _parted_looks(looks):
    """The first pair of parted looks in this sequence; None if all are on one line."""
    rows = [look[0] for look in looks]
    # To look for a pair takes longer, and mostly there is none.
    pair = None if on_one_line(rows) else first_parted(rows)
    return None if pair is None else (looks[pair[0]], looks[pair[1]])


class Hand:
    """A hand that comes up on a disk, calls deeds of an object, and answers for what houses show it."""

    def __init__(self, trust, store, table, begin, number, disk):
        check_book(trust, store)
        check_table(table)
        check_state(table, begin)
        check_hand(store, number)
        check_disk(disk)
        self.trust = trust
        self.store = store
        self.table = table
        self.begin = begin
        self.number = number
        self.disk = disk
        self.life = mended(trust, store, number, self._cells())["life"]
        self._turn = 0
        self._round = None
        self._came_to = None
        self._deed = None
        # Of the first collect of the call: its row, its sayings, and the cell "last" then.
        self._first = None
        # Of the last collect of this life: the row of each house that was heard.
        self._rows = {}
        self._come_up()

    def call(self, deed):
        """Begins a call of the deed: the letters of its first round."""
        check_deed(self.table, deed)
        if self._came_to is not None and self._came_to[0] == "lied":
            raise Lied("the hand was lied to in this life")
        if self._round is not None:
            raise Busy("a round is open")
        self._deed = deed
        self._first = None
        return self._ask()

    def hear(self, letter):
        """The list of the letters that follow upon any value."""
        if self._round is None or not is_letter(self.store, letter) or not self._round.may_hear(letter):
            return []
        house, body = letter[0][1], letter[2]
        saying = body[-1]
        if not is_told(self.trust, self.store, saying) or house_in(self.trust, saying) != house:
            return []
        if body[0] == "have":
            return self._hear_have(house, body[3], saying)
        return self._hear_kept(house, saying)

    def again(self):
        """The letters of the open round to houses of which no right answer came."""
        return [] if self._round is None else self._round.waiting_for()

    def answer(self):
        """What the last call came to; None while a round is open, and ahead of the first call."""
        return self._came_to if self._round is None else None

    def _cells(self):
        return cells_of(self.store, self.disk)

    def _come_up(self):
        cells = self._cells()
        rest = mended(self.trust, self.store, self.number, cells)
        self.disk.write("life", self.life)
        if rest["sheet"] is not None:
            self._tell(rest["sheet"])
        elif cells["sheet"] is not None:
            if cells["looks"]:
                self.disk.write("looks", ())
            self.disk.write("sheet", None)
            self._came_to = ("done", answer_of_sheet(self.trust, cells["sheet"]))

    def _new_round(self, word, aim, rests):
        """Opens a round with a letter to each house, whose body ends with what is in rests for it."""
        self._turn += 1
        heads = (word, self.life, self._turn)
        letters = [(("hand", self.number), ("house", house), heads + rest) for house, rest in enumerate(rests)]
        self._round = Round(letters, aim)
        return self._round.waiting_for()

    def _is_over(self):
        return len(self._round.told) == need_of(self.store)

    def _ask(self):
        """Begins a collect."""
        cells = self._cells()
        about = () if cells["last"] is None else cells["last"][1]
        return self._new_round("ask", about, [(row_of(cells["stock"]), about)] * self.store[1])

    def _keep(self, stock, row):
        """Tells each house the sheets of the stock up to the row that it lacked in the last collect of the call."""
        lows = [self._rows.get(house, noughts(self.store)) for house in range(self.store[1])]
        return self._new_round("keep", row, [(sheets_between(stock, low, row),) for low in lows])

    def _hear_have(self, house, names, saying):
        """Hears what a house has; the letters that follow."""
        cells = self._cells()
        stock = taken_in(self.trust, self.store, cells["stock"], names)
        row = row_in(self.trust, saying)
        if about_in(self.trust, saying) != self._round.aim or not closes(self.trust, stock, row):
            return []
        pair = _parted_looks(looks_told(self.trust, stock) + list(cells["looks"]))
        if pair is not None:
            return self._lied_by(pair)
        if stock != cells["stock"]:
            self.disk.write("stock", stock)
        self._round.told[house] = saying
        return self._decide() if self._is_over() else []

    def _decide(self):
        """Decides a collect; the letters that follow."""
        had = self._round.heard()
        row = row_had(self.trust, had)
        cells = self._cells()
        last = cells["last"]
        self._rows = {house: row_in(self.trust, name) for house, name in self._round.told.items()}
        if self._first is None:
            self._first = (row, had, last)
        if last is not None and not below(last[0], row):
            return self._lied_to(went_back(self.trust, self.store, last[0], last[1], had))
        if last is not None and last[0] == row:
            return self._take((row, last[1], had))
        lenders = [hand for hand, many in enumerate(row) if many >= self._first[0][hand] + 2]
        if lenders:
            return self._borrow(lenders[0], row)
        return self._keep(cells["stock"], row)

    def _borrow(self, lender, row):
        """Takes the own look of the last sheet of another hand up to the row; the letters that follow."""
        look = own_look(self.trust, self._cells()["stock"][lender][row[lender] - 1])
        first, had, last = self._first
        if last is not None and not below(last[0], look[0]):
            span = (last[0], first, last[1], had)
            return self._lied_to(named(self.trust, self.store, span, span_of(look)))
        self.disk.write("last", (look[0], look[1]))
        return self._take(look)

    def _take(self, look):
        """Takes a look, and tells the sheet of the deed; the letters that follow."""
        cells = self._cells()
        stock, looks = cells["stock"], cells["looks"]
        pair = _parted_looks(looks_told(self.trust, stock) + list(looks) + [look])
        if pair is not None:
            return self._lied_by(pair)
        if not looks or looks[-1][0] != look[0]:
            looks = looks + (look,)
            self.disk.write("looks", looks)
        state = state_behind(self.table, self.begin, lot_up_to(self.trust, stock, look[0]))
        answer = self.table[self._deed][state][1]
        number = len(stock[self.number]) + 1
        sheet = self.trust.name(("sheet", self.number, number, self._deed, answer, looks))
        # Written ahead of the seal: a hand that fell between the two would otherwise seal this number once more.
        self.disk.write("sheet", sheet)
        return self._tell(sheet)

    def _tell(self, sheet):
        """Seals a sheet that is written and tells it; the letters that follow."""
        self.trust.seal(("hand", self.number), sheet)
        row = own_look(self.trust, sheet)[0]
        stock = _with_sheet(self._cells()["stock"], self.number, sheet)
        return self._keep(stock, one_more(row, self.number))

    def _hear_kept(self, house, saying):
        """Hears that a house keeps what is told; the letters that follow."""
        aim = self._round.aim
        if about_in(self.trust, saying) != () or not below(aim, row_in(self.trust, saying)):
            return []
        self._round.told[house] = saying
        if not self._is_over():
            return []
        cells = self._cells()
        self.disk.write("last", (aim, self._round.heard()))
        if cells["sheet"] is None:
            return self._ask()
        return self._end(cells["stock"], cells["sheet"])

    def _end(self, stock, sheet):
        """Ends the call whose sheet was told."""
        self.disk.write("stock", _with_sheet(stock, self.number, sheet))
        self.disk.write("looks", ())
        self.disk.write("sheet", None)
        self._round = None
        self._came_to = ("done", answer_of_sheet(self.trust, sheet))
        return []

    def _lied_by(self, pair):
        """The hand was lied to by two parted looks."""
        one, other = pair
        return self._lied_to(named(self.trust, self.store, span_of(one), span_of(other)))

    def _lied_to(self, papers):
        """The hand was lied to, as the papers show."""
        self._round = None
        self._came_to = ("lied", papers)
        return []
