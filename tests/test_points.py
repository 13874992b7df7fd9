"""Point 82: points of a list of places, or two calls that stand against the time."""

import random
import unittest
from itertools import permutations

from seenatonce.errors import BadHistory, BadPlaces, BadTable
from seenatonce.points import points_of
from tests.helpers import GREATEST, bends, check_refused, check_sequence, odd_values
from tests.test_histories import NO_HISTORY, TABLE, chain, drawn_history
from tests.test_lots import NO_TABLE

HISTORY = [(0, 1, 8, 0, 0), (1, 2, 3, 1, 1), (1, 4, 5, 1, 0), (2, 6, None, 0, None)]


def points_by_words(history, places):
    """A look at each two of the places; the least moments one by one."""
    for k, other in enumerate(places):
        for one in places[:k]:
            if history[other][2] is not None and history[other][2] < history[one][1]:
                return ("against", one, other)
    moments = ()
    for place in places:
        moments += (max(history[place][1], *moments[-1:]) if moments else history[place][1],)
    return ("points", moments)


class Points(unittest.TestCase):
    def check(self, history, places, told):
        for value in (list(places), tuple(places)):
            self.assertEqual(points_of(table=TABLE, history=history, places=value), told)
            self.assertEqual(points_of(TABLE, tuple(history), value), told)

    def test_by_hand(self):
        for places, told in (([0, 1, 2], ("points", (1, 2, 4))), ([1, 0, 2], ("points", (2, 2, 4))), ([1, 2, 0], ("points", (2, 4, 4))),
                             ([1, 2, 3, 0], ("points", (2, 4, 6, 6))), ([3, 0, 1, 2], ("against", 3, 1)), ([0, 2, 1], ("against", 2, 1)),
                             ([2, 0, 1], ("against", 2, 1)), ([0, 1, 3, 2], ("against", 3, 2)), ([3, 2, 1, 0], ("against", 3, 2)), ([2, 3, 1, 0], ("against", 2, 1))):
            self.check(HISTORY, places, told)

    def test_no_calls(self):
        self.check([], [], ("points", ()))
        self.check([(0, 5, None, 0, None)], [], ("points", ()))
        self.check([(0, 5, None, 0, None)], [0], ("points", (5,)))

    def test_an_end_is_above_the_point(self):
        self.check([(0, 1, 4, 0, 0), (1, 3, 9, 0, 0)], [1, 0], ("points", (3, 3)))
        self.check([(0, 1, 3, 0, 0), (1, 4, 9, 0, 0)], [1, 0], ("against", 1, 0))

    def test_great_moments(self):
        self.check([(0, 0, GREATEST, 0, 0), (1, GREATEST - 1, None, 0, None)], [1, 0], ("points", (GREATEST - 1, GREATEST - 1)))
        self.check([(0, 0, GREATEST - 1, 0, 0), (1, GREATEST, None, 0, None)], [1, 0], ("against", 1, 0))

    def test_sixty_calls(self):
        history = chain(60)
        self.check(history, range(60), ("points", tuple(range(0, 120, 2))))
        self.check(history, [1, 0, *range(2, 60)], ("against", 1, 0))
        self.check(history, [*range(58), 59, 58], ("against", 59, 58))
        self.check(history, range(59, -1, -1), ("against", 59, 58))

    def test_all_places_of_small_histories(self):
        draw = random.Random(820)
        kinds = {"points": 0, "against": 0}
        for _ in range(120):
            history = drawn_history(draw, TABLE, draw.randint(0, 5))
            ended = [k for k, call in enumerate(history) if call[2] is not None]
            lots = [ended + [k for k in range(len(history)) if k not in ended and draw.random() < 0.5] for _ in range(2)]
            for places in [list(places) for lot in lots for places in list(permutations(lot))[:60]]:
                told = points_of(TABLE, history, places)
                self.assertEqual(told, points_by_words(history, places))
                kinds[told[0]] += 1
                if told[0] == "points":
                    for k, (place, moment) in enumerate(zip(places, told[1])):
                        begin, end = history[place][1:3]
                        self.assertTrue(begin <= moment and (end is None or moment < end))
                        self.assertTrue(k == 0 or told[1][k - 1] <= moment)
                        # Moments that are less there are none.
                        self.assertTrue(moment == begin or moment == told[1][k - 1])
        self.assertGreater(min(kinds.values()), 300)

    def test_drawn(self):
        draw = random.Random(821)
        for _ in range(150):
            history = drawn_history(draw, TABLE, 20, 6)
            places = sorted(range(len(history)), key=lambda k: history[k][1] + draw.randint(0, 25))
            self.assertEqual(points_of(TABLE, history, places), points_by_words(history, places))


class Errors(unittest.TestCase):
    def test_errors(self):
        args = [TABLE, HISTORY, [0, 1, 2]]
        check_refused(self, BadTable, points_of, args, 0, NO_TABLE)
        check_refused(self, BadHistory, points_of, args, 1, NO_HISTORY)
        wrong = [[0, 1], [1, 2], [0, 1, 2, 2], [0, 0, 1, 2], [0, 1, 2, 4], [0, 1, 2, -1], [0, 1, 2, 10 ** 18], [0, True, 2], {0: 0, 1: 1, 2: 2}, "012", {0, 1, 2}]
        check_refused(self, BadPlaces, points_of, args, 2, [*odd_values(), *wrong, *[bent for bent in bends((0, 1, 2)) if bent != [0, 1, 2]]])
        check_sequence(self, points_of, args, [(0, None, BadTable), (1, None, BadHistory), (2, None, BadPlaces)])

    def test_what_is_passed_stays(self):
        history, places = list(HISTORY), [1, 0, 2]
        points_of(TABLE, history, places)
        self.assertEqual((history, places), (HISTORY, [1, 0, 2]))


if __name__ == "__main__":
    unittest.main()
