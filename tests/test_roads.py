"""Point 53: the road, on which all letters lie for ever."""

import random
import unittest

from seenatonce.errors import BadLetter, BadNumber, BadStore, BadWho
from seenatonce.roads import Road
from tests.helpers import bends, check_refused, odd_values
from tests.test_letters import ASK, HAVE, KEPT, LETTERS, STORE
from tests.test_sayings import NO_STORE
from tests.test_trust import NO_WHO

WHOS = [("hand", 0), ("hand", 1), ("house", 0), ("house", 1), ("house", 2), ("house", 3)]


class Roads(unittest.TestCase):
    def test_letters_lie_in_the_sequence_in_which_they_were_sent(self):
        road = Road(STORE)
        self.assertEqual((road.store, road.count()), (STORE, 0))
        sent = [*LETTERS, ASK, HAVE, ASK]
        for k, letter in enumerate(sent):
            self.assertEqual(road.send(letter=letter), k)
            self.assertEqual(road.count(), k + 1)
        for k, letter in enumerate(sent):
            self.assertEqual(road.letter(number=k), letter)
            self.assertEqual(road.letter(k), letter)

    def test_a_letter_that_is_sent_twice_lies_twice(self):
        road = Road(STORE)
        self.assertEqual([road.send(KEPT), road.send(ASK), road.send(KEPT)], [0, 1, 2])
        self.assertEqual(road.waiting(KEPT[1]), [0, 2])
        self.assertEqual(road.waiting(receiver=ASK[1]), [1])

    def test_waiting(self):
        draw = random.Random(530)
        road = Road(STORE)
        sent = []
        for _ in range(60):
            self.assertEqual(road.count(), len(sent))
            letter = draw.choice(LETTERS)
            sender, receiver = draw.choice(WHOS[:2]), draw.choice(WHOS[2:])
            if letter[0][0] == "house":
                sender, receiver = receiver, sender
            road.send((sender, receiver, letter[2]))
            sent.append(receiver)
            for who in WHOS:
                self.assertEqual(road.waiting(who), [k for k, other in enumerate(sent) if other == who])

    def test_a_list_that_is_returned_is_new(self):
        road = Road(STORE)
        road.send(ASK)
        road.waiting(ASK[1]).append(7)
        road.waiting(("hand", 0)).append(7)
        self.assertEqual((road.waiting(ASK[1]), road.waiting(("hand", 0)), road.count()), ([0], [], 1))

    def test_roads_are_apart(self):
        one, other = Road(STORE), Road(STORE)
        one.send(ASK)
        self.assertEqual((one.count(), other.count()), (1, 0))
        self.assertNotEqual(one, None)

    def test_refusals_change_nothing(self):
        road = Road(STORE)
        road.send(ASK)
        beyond = [(("hand", 2), *ASK[1:]), (ASK[0], ("house", 4), ASK[2]), (ASK[1], ASK[0], ASK[2]), list(ASK)]
        check_refused(self, BadLetter, road.send, [ASK], 0, [*odd_values(), (), 5, *bends(ASK), *bends(HAVE), *beyond])
        numbers = [None, True, False, -1, 1, 10 ** 18, "0", (0,), [], {}]
        check_refused(self, BadNumber, road.letter, [0], 0, numbers)
        whos = [*NO_WHO, ("hand", 2), ("house", 4), *bends(("house", 1)), ("hands", 0)]
        check_refused(self, BadWho, road.waiting, [("hand", 0)], 0, whos)
        self.assertEqual((road.count(), road.letter(0), road.waiting(ASK[1])), (1, ASK, [0]))
        empty = Road(STORE)
        check_refused(self, BadNumber, empty.letter, [0], 0, [0, True, None])

    def test_no_store(self):
        check_refused(self, BadStore, Road, [STORE], 0, NO_STORE)
        self.assertEqual(Road(store=(6, 13, 4)).store, (6, 13, 4))


if __name__ == "__main__":
    unittest.main()
