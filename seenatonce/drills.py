"""Drills: runs of hands and houses on rows alone, in which one of the rules of care may be left out."""

from seenatonce.checks import MOST_HANDS, MOST_HOUSES, ascends, below, is_list, is_place, is_row_for, is_tuple_of
from seenatonce.errors import BadAct, BadFrame, BadHand, BadLiars, BadRule, BadRun
from seenatonce.rows import are_apart, joined, one_more

MOST_ACTS = 300


def care_rules():
    """The names of the care rules."""
    return ("told", "again", "enough", "unlike", "turn", "life", "closed", "two", "lent", "ended", "written", "told on",
            "holds", "houses")


def is_frame(value):
    """Whether any value is a frame (hands, houses, lies)."""
    if not is_row_for(value, 3):
        return False
    hands, houses, lies = value
    return 1 <= hands <= MOST_HANDS and lies < houses <= MOST_HOUSES


def _check_drill(frame, liars, without):
    if not is_frame(frame) or frame[1] <= 3 * frame[2] and without != "houses":
        raise BadFrame("no frame, or too few houses")
    _, houses, lies = frame
    if not isinstance(liars, tuple) or not all([is_place(house, houses) for house in liars]):
        raise BadLiars("no tuple of numbers of houses")
    if not ascends(liars) or len(liars) > lies:
        raise BadLiars("no few ascending numbers of houses")
    if without is not None and without not in care_rules():
        raise BadRule("no care rule")


class Seat:
    """What a hand of a drill holds."""

    def __init__(self, noughts):
        self.life = 1
        self.turn = 0
        self.last = None
        self.ended = 0
        # The row of the sheet that is written; None if there is none.
        self.written = None
        self.trips = False
        # The open round: its word (None without one), its aim, whether it tells a sheet, the letters taken.
        self.word = None
        self.aim = None
        self.tells_sheet = False
        self.taken = []
        # The call: the moment of its begin, the first row that it collected, how many collects were decided.
        self.begun = 0
        self.first = None
        self.collects = 0
        # All that was taken from letters of asking, and the aims of the sheets that have ended.
        self.known = noughts

    def begin_round(self, word, aim, tells_sheet):
        """Opens a round in which nothing is heard as yet."""
        self.turn += 1
        self.word = word
        self.aim = aim
        self.tells_sheet = tells_sheet
        self.taken = []

    def close_round(self):
        """Leaves no round open."""
        self.word = None
        self.aim = None

    def begin_call(self, moment):
        """Begins to collect."""
        self.begun = moment
        self.first = None
        self.collects = 0
        self.begin_round("ask", None, False)

    def fall(self):
        """Falls and comes back, with what is written."""
        self.life += 1
        self.turn = 0
        self.trips = False
        self.close_round()


class Drill:
    """A run of hands and houses on rows, act by act."""

    def __init__(self, frame, liars, without):
        _check_drill(frame, liars, without)
        self.frame = frame
        self.liars = liars
        self.without = without
        hands, houses, _ = frame
        self._noughts = (0,) * hands
        self._rows = [None if house in liars else self._noughts for house in range(houses)]
        self._seats = [Seat(self._noughts) for _ in range(hands)]
        self._sheets = [() for _ in range(hands)]
        self._letters = []
        self._looks = []
        # For each sheet (hand, number) that has ended the moment at which it did.
        self._ends = {}
        self._moment = 0
        self._wrong = None

    def is_act(self, act):
        """Whether any value is an act that can be done now."""
        if is_tuple_of(act, 4):
            return act[0] == "reply" and self._can_reply(act[1], act[2], act[3])
        if not is_tuple_of(act, 2):
            return False
        word, number = act
        if word == "hear":
            return is_place(number, len(self._letters))
        if word == "drop":
            return is_place(number, len(self._rows)) and self._rows[number] is not None
        if not is_place(number, len(self._seats)):
            return False
        return word in ("fall", "trip") or word == "call" and self._seats[number].word is None

    def act(self, act):
        """Does an act."""
        if not self.is_act(act):
            raise BadAct("no act that can be done now")
        self._moment += 1
        word, number = act[0], act[1]
        if word == "reply":
            self._reply(number, act[2], act[3])
        elif word == "hear":
            self._hear(self._letters[number])
        elif word == "call":
            self._seats[number].begin_call(self._moment)
        elif word == "fall":
            self._fall(number)
        elif word == "trip":
            self._seats[number].trips = True
        elif self.without == "holds":
            self._rows[number] = self._noughts

    def looks(self):
        """All looks taken so far, as triples (hand, row, lender)."""
        return tuple(self._looks)

    def sheets(self):
        """For each hand the rows of its sealed sheets."""
        return tuple(self._sheets)

    def rows(self):
        """The rows of the houses, None for those that lie."""
        return tuple(self._rows)

    def letters(self):
        """All letters (hand, life, turn, word, house, row)."""
        return tuple(self._letters)

    def hand_at(self, hand):
        """What the hand holds: (life, turn, word, aim, last, ended)."""
        if not is_place(hand, len(self._seats)):
            raise BadHand("no hand of the frame")
        seat = self._seats[hand]
        return (seat.life, seat.turn, seat.word, seat.aim, seat.last, seat.ended)

    def wrong(self):
        """What has come about first that must not be; None if nothing has."""
        return self._wrong

    def _can_reply(self, hand, house, row):
        if not is_place(hand, len(self._seats)) or not is_place(house, len(self._rows)):
            return False
        if self._seats[hand].word is None:
            return False
        if self._rows[house] is not None:
            return row is None
        return is_row_for(row, len(self._seats)) and below(row, tuple([len(sheets) for sheets in self._sheets]))

    def _goes_wrong(self, what):
        if self._wrong is None:
            self._wrong = what

    def _reply(self, hand, house, row):
        seat = self._seats[hand]
        if row is None:
            if seat.word == "keep":
                self._rows[house] = joined([self._rows[house], seat.aim])
            row = self._rows[house]
        self._letters.append((hand, seat.life, seat.turn, seat.word, house, row))

    def _is_closed(self, row):
        return all([below(told, row) for sheets, many in zip(self._sheets, row) for told in sheets[:many]])

    def _is_right(self, letter):
        """Whether a letter answers the open round of its hand."""
        hand, life, turn, word, house, row = letter
        seat = self._seats[hand]
        if word != seat.word or life != seat.life and self.without != "life":
            return False
        if turn != seat.turn and self.without != "turn":
            return False
        if self.without != "unlike" and house in [taken[4] for taken in seat.taken]:
            return False
        if word == "keep":
            return below(seat.aim, row)
        return self.without == "closed" or self._is_closed(row)

    def _hear(self, letter):
        if not self._is_right(letter):
            return
        hand, _, _, word, _, row = letter
        seat = self._seats[hand]
        seat.taken.append(letter)
        if word == "ask":
            seat.known = joined([seat.known, row])
        if len(seat.taken) == self._enough():
            if word == "ask":
                self._decide(hand, joined([taken[5] for taken in seat.taken]))
            else:
                self._have_told(hand)

    def _enough(self):
        """With how many letters taken a round is over."""
        _, houses, lies = self.frame
        return max(1, houses - lies - 1) if self.without == "enough" else houses - lies

    def _decide(self, hand, row):
        """Decides a collect with this row."""
        seat = self._seats[hand]
        seat.collects += 1
        if seat.first is None:
            seat.first = row
        if seat.collects > len(self._seats) + 1:
            self._goes_wrong(("long", hand))
        if seat.last is not None and not below(seat.last, row):
            self._goes_wrong(("back", hand))
        lenders = self._lenders(seat.first, row)
        if self.without == "told" or row == seat.last:
            self._take(hand, row, None)
        elif lenders:
            seat.last = self._sheets[lenders[0]][row[lenders[0]] - 1]
            self._take(hand, seat.last, lenders[0])
        else:
            seat.begin_round("keep", row, False)

    def _lenders(self, first, row):
        """The hands that may lend a look, ascending."""
        if self.without == "lent":
            return []
        more = 1 if self.without == "two" else 2
        return [hand for hand, many in enumerate(row) if many >= first[hand] + more]

    def _have_told(self, hand):
        """Ends a round of telling."""
        seat = self._seats[hand]
        seat.last = seat.aim
        if seat.tells_sheet:
            self._end_sheet(hand, seat.aim)
        elif self.without == "again":
            self._take(hand, seat.aim, None)
        else:
            seat.begin_round("ask", None, False)

    def _end_sheet(self, hand, aim):
        """Ends the sheet that was written, which is the last one up to the aim."""
        seat = self._seats[hand]
        seat.ended += 1
        seat.written = None
        seat.known = joined([seat.known, aim])
        seat.close_round()
        self._ends[(hand, seat.ended)] = self._moment

    def _take(self, hand, row, lender):
        """Takes a look."""
        self._looks.append((hand, row, lender))
        self._look_at(len(self._looks) - 1)
        seat = self._seats[hand]
        if seat.trips:
            # Without the rule the seal comes ahead of the write, so that the fall is behind it.
            if self.without == "written":
                self._seal(hand, row)
            self._fall(hand)
            return
        seat.written = row
        self._seal(hand, row)
        aim = one_more(row, hand)
        seat.begin_round("keep", aim, True)
        if self.without == "ended":
            self._end_sheet(hand, aim)

    def _look_at(self, j):
        """Looks at what may be wrong with a look that is taken."""
        hand, row, _ = self._looks[j]
        seat = self._seats[hand]
        parted = [i for i, (_, other, _) in enumerate(self._looks[:j]) if are_apart(other, row)]
        if parted:
            self._goes_wrong(("parted", parted[0], j))
        late = [sheet for sheet in sorted(self._ends) if self._ends[sheet] < seat.begun and row[sheet[0]] < sheet[1]]
        if late:
            self._goes_wrong(("late", j, late[0][0], late[0][1]))
        if not below(row, seat.known):
            self._goes_wrong(("blind", j))

    def _seal(self, hand, row):
        number = self._seats[hand].ended + 1
        if number <= len(self._sheets[hand]):
            self._goes_wrong(("twice", hand, number))
        else:
            self._sheets[hand] = self._sheets[hand] + (row,)

    def _fall(self, hand):
        seat = self._seats[hand]
        seat.fall()
        if seat.written is not None and self.without != "told on":
            seat.begin_round("keep", one_more(seat.written, hand), True)


def drilled(frame, liars, without, run):
    """What comes of a run in a new drill: None, or the first act that cannot be done or by which it goes wrong."""
    drill = Drill(frame, liars, without)
    if not is_list(run) or len(run) > MOST_ACTS:
        raise BadRun("no list of few acts")
    for index, act in enumerate(run):
        if not drill.is_act(act):
            return ("bad", index)
        drill.act(act)
        if drill.wrong() is not None:
            return ("wrong", index, drill.wrong())
    return None
