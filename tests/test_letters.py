"""Point 50: letters between hands and houses."""

import unittest
from itertools import product

from seenatonce.errors import BadStore
from seenatonce.letters import is_letter
from tests.helpers import GREATEST, bends, check_refused, odd_values
from tests.test_sayings import NO_STORE

STORE = (2, 4, 1)
HAND, HOUSE = ("hand", 1), ("house", 3)
NAMES = (("name", 0), ("name", 7))
ASK = (HAND, HOUSE, ("ask", 1, 2, (0, 3), NAMES))
KEEP = (HAND, HOUSE, ("keep", 3, 1, NAMES))
HAVE = (HOUSE, HAND, ("have", 1, 1, NAMES, ("name", 5)))
KEPT = (HOUSE, HAND, ("kept", 2, 9, ("name", 0)))
LETTERS = [ASK, KEEP, HAVE, KEPT]
FROM_HANDS, FROM_HOUSES = [ASK[2], KEEP[2]], [HAVE[2], KEPT[2]]


class Letters(unittest.TestCase):
    def check(self, value, told):
        self.assertIs(is_letter(STORE, value), told, value)

    def test_letters(self):
        for letter in LETTERS:
            self.check(letter, True)
            self.assertIs(is_letter(store=STORE, value=letter), True)

    def test_who_writes_what(self):
        whos = [("hand", 0), ("hand", 1), ("house", 0), ("house", 3)]
        for sender, receiver in product(whos, repeat=2):
            for body in FROM_HANDS:
                self.check((sender, receiver, body), sender[0] == "hand" and receiver[0] == "house")
            for body in FROM_HOUSES:
                self.check((sender, receiver, body), sender[0] == "house" and receiver[0] == "hand")

    def test_hands_and_houses_of_the_store(self):
        for hand, house in product(range(-1, 8), range(-1, 15)):
            for store in ((1, 1, 0), STORE, (6, 13, 4)):
                told = 0 <= hand < store[0] and 0 <= house < store[1]
                row = (0,) * store[0]
                self.assertIs(is_letter(store, (("hand", hand), ("house", house), ("ask", 1, 1, row, ()))), told)
                self.assertIs(is_letter(store, (("house", house), ("hand", hand), KEPT[2])), told)
        for value in (("hand", True), ("hand",), ("hand", 0, 0), ["hand", 0], ("Hand", 0), "hand", None, (0, "hand")):
            self.check((value, HOUSE, KEEP[2]), False)
            self.check((HOUSE, value, KEPT[2]), False)

    def test_lives_and_turns_count_from_one(self):
        for sender, receiver, body in LETTERS:
            for place in (1, 2):
                for value, told in ((0, False), (1, True), (2, True), (GREATEST, True), (GREATEST + 1, False), (-1, False),
                                    (True, False), (None, False), ("1", False)):
                    self.check((sender, receiver, body[:place] + (value,) + body[place + 1:]), told)

    def test_rows_are_for_the_hands_of_the_store(self):
        for row, told in (((0, 0), True), ((GREATEST, 5), True), ((0,), False), ((0, 0, 0), False), ((), False),
                          ((0, -1), False), ((0, True), False), ([0, 0], False), (None, False), ((0, GREATEST + 1), False)):
            self.check((HAND, HOUSE, ("ask", 1, 1, row, ())), told)

    def test_about_is_ascending(self):
        one, two, three = ("name", 0), ("name", 4), ("name", GREATEST)
        for about, told in (((), True), ((three,), True), ((one, two, three), True), ((two, one), False), ((one, one), False),
                            ((one, three, two), False), ([one], False), (one, False), (((one,),), False),
                            ((one, None), False)):
            self.check((HAND, HOUSE, ("ask", 1, 1, (0, 0), about)), told)

    def test_names_may_come_in_any_sequence_and_twice(self):
        one, two = ("name", 9), ("name", 4)
        for names, told in (((), True), ((one, two), True), ((one, two, one, one), True), ([one], False), (one, False),
                            ((one, ("name", -1)), False), ((one, ("name", True)), False), ((one, ["name", 1]), False)):
            self.check((HAND, HOUSE, ("keep", 1, 1, names)), told)
            self.check((HOUSE, HAND, ("have", 1, 1, names, one)), told)

    def test_names_are_looked_at_by_their_form(self):
        for saying, told in ((("name", 0), True), (("name", GREATEST), True), (("name", GREATEST + 1), False), (None, False),
                             (("name",), False), (("name", 1, 1), False), (("Name", 1), False), (("name", False), False), (5, False)):
            self.check((HOUSE, HAND, ("kept", 1, 1, saying)), told)
            self.check((HOUSE, HAND, ("have", 1, 1, (), saying)), told)

    def test_bent_letters_and_other_values(self):
        for letter in LETTERS:
            for value in (*bends(letter), letter[:2], letter + ((),), letter[::-1], letter[2]):
                self.check(value, False)
            for short in (letter[2][:-1], letter[2] + ((),)):
                self.check((*letter[:2], short), False)
        for value in (*odd_values(), (), 5, ((), (), ()), (None, None, None), (HAND, HOUSE, None), (HAND, HOUSE, ())):
            self.check(value, False)

    def test_no_store(self):
        check_refused(self, BadStore, is_letter, [STORE, ASK], 0, NO_STORE)
        check_refused(self, BadStore, is_letter, [STORE, None], 0, NO_STORE)


if __name__ == "__main__":
    unittest.main()
