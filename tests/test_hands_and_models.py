"""Points 92, 93 and 111 beside 51 and 60 to 63: what is told on rows alone is what hands and houses do."""

import random
import unittest

from seenatonce.drills import Drill
from seenatonce.disks import Disk
from seenatonce.hands import Hand
from seenatonce.houses import House
from seenatonce.shown import led, plan_to_show, rows_shown
from seenatonce.tables import counting_table
from seenatonce.trust import Trust
from tests.drills_helpers import drawn_act
from tests.hands_helpers import Stage, sealed_sheets
from tests.helpers import join
from tests.test_shown import drawn_plan, drawn_scene, drawn_scenes, lagging_stock, late_scene

TABLE = counting_table(3)


def led_by_a_hand(book, store, stock, scene, plan):
    """What a hand of the scene does, if houses answer by the plan."""
    number, last, mine, took, rows = scene
    kept = None if last is None else book.lot(last)
    cells = {"life": 1, "stock": tuple(names[:many] for names, many in zip(stock, mine)), "looks": tuple(book.look(row) for row in took)}
    if last is not None:
        cells["last"] = (last, kept)
    stage = Stage(store, TABLE, number=number, cells=cells)
    stage.book, stage.trust = book, book.trust
    stage.up().call(0)
    for collect in plan:
        for house, told in collect:
            row = rows[house] if told is None else told
            if stage.hand.answer() is None:
                names = tuple(name for sheets, many in zip(stock, row) for name in sheets[:many])
                stage.hand.hear(stage.have(house, row, names))
        if stage.hand.answer() is not None:
            return ("lied",)
        if stage.disk.read("sheet") is not None:
            return ("look", book.trust.content(stage.disk.read("sheet"))[5][-1][0])
        back = join(*(rows[house] if told is None else told for house, told in collect))
        stage.keep(back, [house for house, _ in collect])
        rows = [None if had is None else join(had, back) for had in rows]
    held = stage.disk.read("last")
    return ("open", None if held is None else held[0])


class Scenes(unittest.TestCase):
    def check(self, book, store, stock, scene, plan):
        told = led(book.trust, store, stock, scene, plan)
        self.assertEqual(led_by_a_hand(book, store, stock, scene, plan), told[:1] if told[0] == "lied" else told, (scene, plan))
        return told

    def test_plans_of_drawn_scenes(self):
        kinds = {}
        for draw, book, store, stock, scene in drawn_books(940, 120):
            for _ in range(3):
                told = self.check(book, store, stock, scene, drawn_plan(draw, book.trust, store, stock, scene))
                kinds[told[0]] = kinds.get(told[0], 0) + 1
        self.assertGreater(min(kinds.values()), 20)
        self.assertEqual(set(kinds), {"open", "look", "lied"})

    def test_rows_that_are_shown(self):
        many = 0
        for _, book, store, stock, scene in drawn_books(941, 80):
            for row in rows_shown(book.trust, store, stock, scene):
                plan = plan_to_show(book.trust, store, stock, scene, row)
                self.assertEqual(self.check(book, store, stock, scene, plan), ("look", row))
                many += 1
        self.assertGreater(many, 150)


def drawn_books(seed, many):
    """Drawn scenes with the book; some of looks that lag behind."""
    draw = random.Random(seed)
    for draw, book, store, stock, scene in drawn_scenes(seed, many, with_book=True):
        yield draw, book, store, stock, scene
    for _ in range(many):
        store, liars = draw.choice((((3, 4, 1), 0), ((3, 4, 1), 1), ((3, 2, 0), 1), ((4, 2, 0), 1)))
        book, stock = lagging_stock(draw, store, draw.randint(2, 6))
        scene = late_scene(draw, book.trust, store, stock, liars) if draw.random() < 0.7 else drawn_scene(draw, book.trust, store, stock, liars)
        if scene is not None:
            yield draw, book, store, stock, scene


class RealDrill:
    """Hands and houses that do the acts of a drill; of a liar's letters nothing is told here."""

    def __init__(self, frame):
        hands, houses, _ = self.store = frame
        self.trust = Trust()
        self.disks = [Disk({}, None) for _ in range(hands)]
        self.hands = [self.hand(h) for h in range(hands)]
        self.houses = [House(self.trust, self.store, s, Disk({}, None)) for s in range(houses)]
        self.letters = []

    def hand(self, number):
        return Hand(self.trust, self.store, TABLE, 0, number, self.disks[number])

    def do(self, act):
        word, number, *rest = act
        if word == "call":
            self.hands[number].call(0)
        elif word == "reply":
            # The letter of the open round: of all that were sent, also to houses of which an answer came.
            (letter,) = [letter for letter in self.round(number) if letter[1] == ("house", rest[0])]
            self.letters += self.houses[rest[0]].hear(letter)
        elif word == "hear":
            letter = self.letters[number]
            self.hands[letter[1][1]].hear(letter)
        elif word == "fall":
            self.disks[number] = Disk(self.disks[number].cells(), None)
            self.hands[number] = self.hand(number)
        elif word == "drop":
            self.houses[number] = House(self.trust, self.store, number, Disk(self.houses[number].disk.cells(), None))

    def round(self, number):
        """All letters of the open round of a hand."""
        return self.hands[number]._round.letters

    def hand_at(self, number):
        cells, hand = self.disks[number].cells(), self.hands[number]
        letters = hand.again()
        last = cells.get("last")
        word = letters[0][2][0] if letters else None
        turn = letters[0][2][2] if letters else None
        return (hand.life, turn, word, None if last is None else last[0], len(cells.get("stock", ((),) * self.store[0])[number]))


class Drills(unittest.TestCase):
    def test_a_drill_is_what_hands_and_houses_do(self):
        draw = random.Random(950)
        looks = lent = 0
        for _ in range(40):
            frame = draw.choice(((1, 1, 0), (2, 1, 0), (2, 2, 0), (3, 1, 0), (2, 4, 1), (3, 4, 1), (3, 3, 0)))
            drill, real = Drill(frame, (), None), RealDrill(frame)
            for _ in range(220):
                act = drawn_act(draw, drill)
                if act[0] != "trip":
                    drill.act(act)
                    real.do(act)
                    self.compare(drill, real, frame)
            looks += len(drill.looks())
            lent += sum(lender is not None for _, _, lender in drill.looks())
        self.assertGreater(looks, 150)
        self.assertGreater(lent, 3)

    def compare(self, drill, real, frame):
        self.assertEqual(drill.rows(), tuple(house.row() for house in real.houses))
        for hand in range(frame[0]):
            life, turn, word, _, last, ended = drill.hand_at(hand)
            self.assertEqual(real.hand_at(hand), (life, turn if word else None, word, last, ended))
        told = {}
        for content in sealed_sheets(real.trust).values():
            told[content[1:3]] = content[5][-1][0]
        self.assertEqual(told, {(hand, k + 1): row for hand, rows in enumerate(drill.sheets()) for k, row in enumerate(rows)})
        self.assertEqual([letter[2][1:3] for letter in real.letters], [letter[1:3] for letter in drill.letters()])


if __name__ == "__main__":
    unittest.main()
