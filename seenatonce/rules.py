"""For each care rule a run that goes wrong without it; and runs that go wrong with too few houses."""

from seenatonce.checks import MOST_HOUSES, is_number
from seenatonce.drills import care_rules
from seenatonce.errors import BadFrame, BadRule

# How many rounds a hand needs from its first call to its look, and to its end. In a later call it needs one to its look
# and one more to its end, if the houses have what it told them last.
LOOK = 3
END = 4


class Script:
    """The acts of a drill, one behind another."""

    def __init__(self):
        self._acts = []
        self._count = 0

    def add(self, word, number):
        """An act of two items."""
        self._acts.append((word, number))

    def sent(self, hand, house, row):
        """A house answers the hand; the number of its letter."""
        self._acts.append(("reply", hand, house, row))
        self._count += 1
        return self._count - 1

    def round(self, hand, houses):
        """These houses, which keep to their rules, answer the hand, and it hears each answer at once."""
        for house in houses:
            self.add("hear", self.sent(hand, house, None))

    def rounds(self, hand, houses, many):
        """So many such rounds."""
        for _ in range(many):
            self.round(hand, houses)

    def call(self, hand, houses, many):
        """A call of the hand, with so many such rounds."""
        self.add("call", hand)
        self.rounds(hand, houses, many)

    def run(self):
        """All acts."""
        return tuple(self._acts)


def _two_sides(many):
    """Hands 2 and 3 collect one sheet each, that of hand 0 and that of hand 1, for which these need so many rounds."""
    script = Script()
    script.call(0, [0, 1], many)
    script.call(1, [0, 1], many)
    script.add("call", 2)
    script.add("call", 3)
    # House 1 answers hand 2, and house 0 hand 3, when they have nothing; then each hears of one sheet.
    early, other = script.sent(2, 1, None), script.sent(3, 0, None)
    script.sent(0, 0, None)
    script.sent(1, 1, None)
    for hand, number in ((2, early), (3, other)):
        script.add("hear", number)
        script.round(hand, [hand - 2])
    return script


def _without_told():
    """Two hands take for looks what each collected once."""
    return ((4, 2, 0), (), _two_sides(1).run())


def _without_again():
    """Two hands take for looks what each told back."""
    script = _two_sides(2)
    script.round(2, [0, 1])
    script.round(3, [0, 1])
    return ((4, 2, 0), (), script.run())


def _without_enough():
    """One house knows of the sheet, and another one alone is heard."""
    script = Script()
    script.call(0, [0], END)
    script.call(1, [1], LOOK)
    return ((2, 2, 0), (), script.run())


def _without_unlike():
    """The same, each house being heard twice."""
    script = Script()
    script.call(0, [0, 0], END)
    script.call(1, [1, 1], LOOK)
    return ((2, 2, 0), (), script.run())


def _without_turn():
    """The first letter of the first call is heard in the second one."""
    script = Script()
    script.call(0, [0], END)
    script.add("call", 0)
    script.add("hear", 0)
    return ((1, 1, 0), (), script.run())


def _without_life():
    """The first letter of the first life is heard in the second one, in the same turn."""
    script = Script()
    script.call(0, [0], END)
    script.add("fall", 0)
    script.add("call", 0)
    script.add("hear", 0)
    return ((1, 1, 0), (), script.run())


def _without_closed():
    """A house that lies tells two sheets of hand 1, but not that of hand 0 that the second one had seen."""
    script = Script()
    script.call(2, [0, 1, 2], 2)
    early = [script.sent(2, 0, None), script.sent(2, 1, None)]
    script.call(0, [0, 1, 2], END)
    script.call(1, [0, 1, 2], END)
    script.call(1, [0, 1, 2], 1)
    for number in early + [script.sent(2, 3, (0, 2, 0))]:
        script.add("hear", number)
    return ((3, 4, 1), (3,), script.run())


def _without_two():
    """Hand 1 lends a look that it took ahead of the call, and of the end of the sheet of hand 0."""
    script = Script()
    script.call(1, [0], LOOK)
    script.call(0, [0], END)
    script.call(2, [0], 2)
    script.sent(1, 0, None)
    script.round(2, [0])
    return ((3, 1, 0), (), script.run())


def _without_lent():
    """Hand 0 tells a new sheet ahead of each collect of hand 1."""
    script = Script()
    script.call(1, [0], 2)
    script.call(0, [0], END)
    for _ in range(2):
        script.rounds(1, [0], 2)
        script.call(0, [0], 2)
    script.round(1, [0])
    return ((2, 1, 0), (), script.run())


def _without_ended():
    """The sheet of hand 0 has ended, and no house has it."""
    script = Script()
    script.call(0, [0], LOOK)
    script.call(1, [0], LOOK)
    return ((2, 1, 0), (), script.run())


def _without_written():
    """The hand falls behind the seal, and seals the same number in its next life."""
    script = Script()
    script.add("trip", 0)
    script.call(0, [0], LOOK)
    script.call(0, [0], 1)
    return ((1, 1, 0), (), script.run())


def _without_told_on():
    """The same, though the sheet was written."""
    script = Script()
    script.call(0, [0], LOOK)
    script.add("fall", 0)
    script.call(0, [0], 1)
    return ((1, 1, 0), (), script.run())


def _without_holds():
    """The house has lost the sheet that it told to keep."""
    script = Script()
    script.call(0, [0], END)
    script.add("drop", 0)
    script.call(0, [0], 1)
    return ((1, 1, 0), (), script.run())


def _few(houses, lies):
    """Two hands hear lots of houses that have in common only houses that lie, and tell each of nothing.

    Hand 0 ends its call with the first houses, and hand 1 then takes its look with the last ones.
    """
    need = houses - lies
    liars = tuple(range(lies, need))
    script = Script()
    for hand, first, told in ((0, 0, ((0, 0), (0, 0), (0, 0), (1, 0))), (1, lies, ((0, 0), (0, 0), (0, 0)))):
        script.add("call", hand)
        for row in told:
            for house in range(first, first + need):
                script.add("hear", script.sent(hand, house, row if house in liars else None))
    return ((2, houses, lies), liars, script.run())


def few_run(houses, lies):
    """A triple (frame, liars, run) that goes wrong, as there are no more than three houses for each lie."""
    if not is_number(houses) or not is_number(lies) or not lies < houses <= min(3 * lies, MOST_HOUSES):
        raise BadFrame("no houses above the lies, up to 3 for each and up to 13")
    return _few(houses, lies)


def _without_houses():
    return _few(3, 1)


def run_without(rule):
    """A triple (frame, liars, run) that goes wrong at its last act if the rule is not minded."""
    if rule not in care_rules():
        raise BadRule("no care rule")
    makers = (_without_told, _without_again, _without_enough, _without_unlike, _without_turn, _without_life,
              _without_closed, _without_two, _without_lent, _without_ended, _without_written, _without_told_on,
              _without_holds, _without_houses)
    make = makers[care_rules().index(rule)]
    return make()
