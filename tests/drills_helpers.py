"""What the tests of drills share: a drill by the document's own words, drawn acts, and whole calls."""

from tests.helpers import below, join, parted

RULES = ("told", "again", "enough", "unlike", "turn", "life", "closed", "two", "lent", "ended", "written", "told on", "holds", "houses")


class PlainDrill:
    """The words of [111] and [112], in the simplest form; each hand is a dict."""

    def __init__(self, frame, liars, without):
        self.hands, self.houses, self.lies = frame
        self.need = self.houses - self.lies
        self.without = without
        no = (0,) * self.hands
        self.house = {s: None if s in liars else no for s in range(self.houses)}
        self.hand = [dict(life=1, turn=0, last=None, ended=0, written=None, round=None, trip=False, call=0, first=None, collects=0, took=no)
                     for _ in range(self.hands)]
        self.sealed = [[] for _ in range(self.hands)]
        self.sent, self.taken, self.over, self.moment, self.faults = [], [], {}, 0, []

    def open_round(self, h, word, aim=None, sheet=False):
        h["turn"] += 1
        h["round"] = dict(word=word, aim=aim, sheet=sheet, letters=[])

    def do(self, act):
        self.moment += 1
        word, number, *rest = act
        if word == "call":
            h = self.hand[number]
            h.update(call=self.moment, first=None, collects=0)
            self.open_round(h, "ask")
        elif word == "reply":
            h, (house, row) = self.hand[number], rest
            if row is None:
                if h["round"]["word"] == "keep":
                    self.house[house] = join(self.house[house], h["round"]["aim"])
                row = self.house[house]
            self.sent.append((number, h["life"], h["turn"], h["round"]["word"], house, row))
        elif word == "hear":
            self.hear(self.sent[number])
        elif word == "fall":
            self.fall(number)
        elif word == "trip":
            self.hand[number]["trip"] = True
        elif self.without == "holds":
            self.house[number] = (0,) * self.hands

    def fall(self, number):
        h = self.hand[number]
        h.update(life=h["life"] + 1, turn=0, round=None, trip=False)
        if h["written"] is not None and self.without != "told on":
            self.open_round(h, "keep", self.with_sheet(number, h["written"]), True)

    def with_sheet(self, number, row):
        return tuple(many + (k == number) for k, many in enumerate(row))

    def is_right(self, h, letter):
        _, life, turn, word, house, row = letter
        now = h["round"]
        if now is None or word != now["word"]:
            return False
        if self.without != "life" and life != h["life"] or self.without != "turn" and turn != h["turn"]:
            return False
        if self.without != "unlike" and house in [told[4] for told in now["letters"]]:
            return False
        if word == "keep":
            return below(now["aim"], row)
        up_to = [told for sheets, many in zip(self.sealed, row) for told in sheets[:many]]
        return self.without == "closed" or all(below(told, row) for told in up_to)

    def hear(self, letter):
        number = letter[0]
        h = self.hand[number]
        if not self.is_right(h, letter):
            return
        now = h["round"]
        now["letters"].append(letter)
        if now["word"] == "ask":
            h["took"] = join(h["took"], letter[5])
        wanted = max(self.need - 1, 1) if self.without == "enough" else self.need
        if len(now["letters"]) < wanted:
            return
        if now["word"] == "ask":
            self.collected(number, join(*(told[5] for told in now["letters"])))
        else:
            self.told(number, now)

    def collected(self, number, x):
        h = self.hand[number]
        h["collects"] += 1
        h["first"] = h["first"] or x
        self.faults += [("long", number)] if h["collects"] > self.hands + 1 else []
        self.faults += [("back", number)] if h["last"] is not None and not below(h["last"], x) else []
        more = {"two": 1, "lent": 10 ** 6}.get(self.without, 2)
        lenders = [k for k in range(self.hands) if x[k] - h["first"][k] >= more]
        if self.without == "told" or h["last"] == x:
            self.look(number, x, None)
        elif lenders:
            h["last"] = self.sealed[lenders[0]][x[lenders[0]] - 1]
            self.look(number, h["last"], lenders[0])
        else:
            self.open_round(h, "keep", x)

    def told(self, number, now):
        h = self.hand[number]
        h["last"] = now["aim"]
        if now["sheet"]:
            self.ends(number, now["aim"])
        elif self.without == "again":
            self.look(number, now["aim"], None)
        else:
            self.open_round(h, "ask")

    def ends(self, number, aim):
        h = self.hand[number]
        h.update(ended=h["ended"] + 1, written=None, round=None, took=join(h["took"], aim))
        self.over[(number, h["ended"])] = self.moment

    def look(self, number, row, lender):
        h, j = self.hand[number], len(self.taken)
        self.taken.append((number, row, lender))
        self.faults += [("parted", i, j) for i in range(j) if parted(self.taken[i][1], row)][:1]
        self.faults += [("late", j, *sheet) for sheet in sorted(self.over) if self.over[sheet] < h["call"] and row[sheet[0]] < sheet[1]][:1]
        self.faults += [] if below(row, h["took"]) else [("blind", j)]
        if h["trip"] and self.without != "written":
            self.fall(number)
            return
        if len(self.sealed[number]) > h["ended"]:
            self.faults.append(("twice", number, h["ended"] + 1))
        else:
            self.sealed[number].append(row)
        if h["trip"]:
            self.fall(number)
            return
        h["written"] = row
        self.open_round(h, "keep", self.with_sheet(number, row), True)
        if self.without == "ended":
            self.ends(number, h["round"]["aim"])

    def shows(self):
        """What a Drill tells of all this."""
        hands = tuple((h["life"], h["turn"], h["round"] and h["round"]["word"], h["round"] and h["round"]["aim"], h["last"], h["ended"]) for h in self.hand)
        return (tuple(self.taken), tuple(map(tuple, self.sealed)), tuple(self.house.values()), tuple(self.sent), hands, self.faults[0] if self.faults else None)


def shown(drill):
    """The same of a Drill."""
    hands = tuple(drill.hand_at(hand) for hand in range(drill.frame[0]))
    return (drill.looks(), drill.sheets(), drill.rows(), drill.letters(), hands, drill.wrong())


def drawn_act(draw, drill):
    """An act that can be done now."""
    hands, houses, _ = drill.frame
    letters = drill.letters()
    while True:
        kind, hand, house = draw.random(), draw.randrange(hands), draw.randrange(houses)
        open_word = drill.hand_at(hand)[2]
        if kind < 0.15 and open_word is None:
            return ("call", hand)
        if kind < 0.55 and open_word is not None:
            row = None
            if house in drill.liars:
                row = tuple(draw.choice((len(sheets), draw.randint(0, len(sheets)))) for sheets in drill.sheets())
            return ("reply", hand, house, row)
        if 0.55 <= kind < 0.94 and letters:
            late = draw.random() < 0.15
            return ("hear", draw.randrange(len(letters)) if late else max(0, len(letters) - 1 - int(draw.expovariate(0.25))))
        if 0.94 <= kind < 0.96:
            return ("fall", hand)
        if 0.96 <= kind < 0.98:
            return ("trip", hand)
        if kind >= 0.98 and house not in drill.liars:
            return ("drop", house)


def drawn_frame(draw):
    frame = draw.choice(((1, 1, 0), (2, 1, 0), (2, 2, 0), (3, 2, 0), (2, 4, 1), (3, 4, 1), (4, 3, 0), (2, 5, 1), (3, 7, 2), (6, 1, 0)))
    return frame, tuple(sorted(draw.sample(range(frame[1]), draw.randint(0, frame[2]))))


def rounds(hand, houses, many, count):
    """The acts of so many rounds of a hand in which these houses answer and are heard at once, count letters being sent."""
    acts = []
    for _ in range(many):
        for house in houses:
            acts += [("reply", hand, house, None), ("hear", count)]
            count += 1
    return acts
