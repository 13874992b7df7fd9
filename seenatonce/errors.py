"""The errors of the package: all stand directly below SeenError, which is a ValueError."""


class SeenError(ValueError):
    """An error of this package."""


class BadAct(SeenError):
    """What is no act that can be done now."""


class BadCall(SeenError):
    """What names no call of the history."""


class BadCell(SeenError):
    """What is no name of a cell."""


class BadCells(SeenError):
    """What is no dict of cells."""


class BadClause(SeenError):
    """What is no clause of a span."""


class BadContent(SeenError):
    """What is no content."""


class BadCount(SeenError):
    """What is no number of lines."""


class BadDeed(SeenError):
    """What is no deed of the table."""


class BadDeeds(SeenError):
    """What is no list of deeds of the table."""


class BadDisk(SeenError):
    """What is no disk."""


class BadEdge(SeenError):
    """What is no edge that is left out."""


class BadFrame(SeenError):
    """What is no frame."""


class BadFuse(SeenError):
    """What is no fuse."""


class BadHand(SeenError):
    """What is no hand."""


class BadHeard(SeenError):
    """What is no lot of heard sayings as it is told."""


class BadHistory(SeenError):
    """What is no history."""


class BadHouse(SeenError):
    """What is no house."""


class BadLetter(SeenError):
    """What is no letter."""


class BadLiars(SeenError):
    """What is no list of liars."""


class BadLine(SeenError):
    """What is no line."""


class BadLook(SeenError):
    """What is no look."""


class BadLot(SeenError):
    """What is no lot of deeds."""


class BadMany(SeenError):
    """What is no number of states of a cell."""


class BadMoment(SeenError):
    """What is no moment."""


class BadName(SeenError):
    """What is no name that was given."""


class BadNumber(SeenError):
    """What is no number of a letter."""


class BadOrder(SeenError):
    """What is no order of a history."""


class BadPair(SeenError):
    """What names no deed of the lot."""


class BadPicks(SeenError):
    """What is no list of picks."""


class BadPlaces(SeenError):
    """What is no list of places of a history."""


class BadPlan(SeenError):
    """What is no plan of collects."""


class BadPlans(SeenError):
    """What is no pair of plans."""


class BadRow(SeenError):
    """What is no row as it is told."""


class BadRows(SeenError):
    """What is no list of rows as it is told."""


class BadRule(SeenError):
    """What is no rule of care."""


class BadRun(SeenError):
    """What is no run."""


class BadSaying(SeenError):
    """What is no name of a saying, or no paper of two."""


class BadScene(SeenError):
    """What is no scene."""


class BadSequence(SeenError):
    """What is no sequence of the lot."""


class BadSize(SeenError):
    """What is no size of such a table."""


class BadSpan(SeenError):
    """What is no span."""


class BadState(SeenError):
    """What is no state of the table."""


class BadStock(SeenError):
    """What is no stock."""


class BadStore(SeenError):
    """What is no store."""


class BadTable(SeenError):
    """What is no table."""


class BadTeller(SeenError):
    """What is no deed that tells the state."""


class BadText(SeenError):
    """The line of a text that is not as told."""

    def __init__(self, line):
        super().__init__(f"no such text: line {line}")
        self.line = line


class BadTrust(SeenError):
    """What is no Trust."""


class BadView(SeenError):
    """What is no view of the hand."""


class BadWeaving(SeenError):
    """What is no weaving of the plans."""


class BadWho(SeenError):
    """What is no hand and no house."""


class Busy(SeenError):
    """A call while a round is open."""


class Fell(SeenError):
    """A write at which the disk falls."""


class Gone(SeenError):
    """What is asked of one that is gone."""


class Lied(SeenError):
    """A call of a hand that was lied to."""


class MoreLie(SeenError):
    """More houses lie than may."""

    def __init__(self, houses):
        super().__init__(f"more houses lie than may: {houses}")
        self.houses = houses


class NotGone(SeenError):
    """What is asked of one that is not gone."""


class NotPlain(SeenError):
    """A history that is not plain."""


class NotServed(SeenError):
    """Two deeds that neither commute nor overwrite."""

    def __init__(self, one, other):
        super().__init__(f"deeds {one} and {other} neither commute nor overwrite")
        self.one = one
        self.other = other


class NotSettling(SeenError):
    """A view that a hand has as the first one and as the second one."""

    def __init__(self, hand, answer, seen):
        super().__init__(f"hand {hand} cannot tell from the answer {answer} and the state {seen} who was first")
        self.hand = hand
        self.answer = answer
        self.seen = seen


class Parted(SeenError):
    """Two places of parted rows."""

    def __init__(self, one, other):
        super().__init__(f"the rows at {one} and {other} are parted")
        self.one = one
        self.other = other


class StillHeld(SeenError):
    """What holds a row that is to be forgotten."""

    def __init__(self, holder):
        super().__init__(f"the row is held by {holder}")
        self.holder = holder


class TooLarge(SeenError):
    """A table that would have too many states or deeds."""

    def __init__(self, states, deeds):
        super().__init__(f"the table would have {states} states and {deeds} deeds")
        self.states = states
        self.deeds = deeds


class TooMany(SeenError):
    """More than the most that is let."""

    def __init__(self, most):
        super().__init__(f"more than {most}")
        self.most = most


class WrongPlans(SeenError):
    """A weaving of plans that is wrong."""

    def __init__(self, weaving):
        super().__init__(f"the plans go wrong in the weaving {weaving}")
        self.weaving = weaving
