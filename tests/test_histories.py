"""Point 80: histories of calls, which is ahead of which, and their beginnings."""

import random
import unittest
from itertools import product

from seenatonce.errors import BadCall, BadHistory, BadMoment, BadTable
from seenatonce.histories import beginning, is_ahead, is_history
from seenatonce.tables import counting_table
from tests.helpers import GREATEST, bends, check_refused, check_sequence, odd_values
from tests.test_lots import NO_TABLE

TABLE = counting_table(3)
HISTORY = [(0, 1, 8, 0, 0), (1, 2, 3, 1, 0), (1, 4, 5, 2, 7), (5, 6, None, 2, None), (0, 9, None, 0, None)]


def drawn_history(draw, table, most, hands=4):
    """Calls with drawn moments, some open; the answers mean nothing."""
    free = draw.sample(range(10 * most + 10), 2 * most)
    moments = sorted(free)
    calls, busy = [], {}
    for moment in moments:
        hand = draw.randrange(hands)
        if hand not in busy:
            busy[hand] = len(calls)
            calls.append((hand, moment, None, draw.randrange(len(table)), None))
        elif draw.random() < 0.9:
            place = busy.pop(hand)
            calls[place] = calls[place][:2] + (moment, calls[place][3], draw.randrange(3))
    return draw.sample(calls, len(calls))


def bent_calls(history):
    """The history with one of its calls bent."""
    for k, call in enumerate(history):
        for bent in bends(call):
            yield [*history[:k], bent, *history[k + 1:]]


def chain(many, hand=0, first=0):
    """So many calls of one hand, one behind another."""
    return [(hand, first + 2 * k, first + 2 * k + 1, 0, 0) for k in range(many)]


class Histories(unittest.TestCase):
    def check(self, value, told):
        self.assertIs(is_history(TABLE, value), told, value)

    def test_histories(self):
        for history in ([], (), HISTORY, tuple(HISTORY), HISTORY[::-1], HISTORY[:3], [(5, 0, GREATEST, 2, GREATEST)], [(0, 0, None, 0, None)]):
            self.check(history, True)
            self.assertIs(is_history(table=TABLE, value=history), True)

    def test_other_values(self):
        odd = [value for value in odd_values() if value != []]
        for value in (*odd, {}, {HISTORY[0]: 1}, HISTORY[0], 5, [HISTORY], [None], [()], [HISTORY[0], None], [list(HISTORY[0])],
                      [HISTORY[0][:4]], [HISTORY[0] + (0,)], "history", set(HISTORY)):
            self.check(value, False)
        for value in bent_calls(HISTORY[:3]):
            # An open call in the place of one with an end has no answer either, and so on: no bent one is a call.
            self.check(value, False)

    def test_calls(self):
        for call, told in (((0, 1, 2, 0, 0), True), ((5, 1, 2, 0, 0), True), ((6, 1, 2, 0, 0), False), ((-1, 1, 2, 0, 0), False),
                           ((True, 1, 2, 0, 0), False), ((0, -1, 2, 0, 0), False), ((0, 0, 2, 0, 0), True), ((0, 2, 2, 0, 0), False),
                           ((0, 3, 2, 0, 0), False), ((0, GREATEST - 1, GREATEST, 0, 0), True), ((0, 1, 10 ** 18, 0, 0), False),
                           ((0, 10 ** 18, None, 0, None), False), ((0, GREATEST, None, 0, None), True), ((0, 1, 2, 3, 0), False),
                           ((0, 1, 2, 2, 0), True), ((0, 1, 2, True, 0), False), ((0, 1, 2, 0, -1), False), ((0, 1, 2, 0, GREATEST), True),
                           ((0, 1, 2, 0, 10 ** 18), False), ((0, 1, 2, 0, False), False), ((0, 1, 2, 0, None), False),
                           ((0, 1, None, 0, 0), False), ((0, 1, None, 0, None), True), ((0, True, 2, 0, 0), False), ((0, 0, True, 0, 0), False)):
            self.check([call], told)

    def test_sixty_calls_and_sixty_one(self):
        for many in (59, 60, 61):
            self.check(chain(many), many <= 60)
            self.check(chain(10, 0) + chain(many - 10, 1, 100), many <= 60)
            self.check([(0, 0, None, 0, None)] + chain(many - 1, 1, 5), many <= 60)

    def test_all_moments_are_unlike(self):
        one = (0, 1, 5, 0, 0)
        for other, told in (((1, 2, 3, 0, 0), True), ((1, 1, 3, 0, 0), False), ((1, 2, 5, 0, 0), False), ((1, 5, 6, 0, 0), False),
                            ((1, 0, 1, 0, 0), False), ((1, 5, None, 0, None), False), ((1, 6, None, 0, None), True), ((1, 1, None, 0, None), False)):
            self.check([one, other], told)
            self.check([other, one], told)

    def test_the_calls_of_one_hand(self):
        one = (0, 3, 6, 0, 0)
        for other, told in (((0, 7, 9, 0, 0), True), ((0, 1, 2, 0, 0), True), ((0, 1, 4, 0, 0), False), ((0, 4, 5, 0, 0), False),
                            ((0, 5, 8, 0, 0), False), ((0, 1, 8, 0, 0), False), ((0, 7, None, 0, None), True), ((0, 1, None, 0, None), False),
                            ((0, 4, None, 0, None), False), ((1, 4, 5, 0, 0), True), ((1, 1, None, 0, None), True)):
            self.check([one, other], told)
            self.check([other, (2, 10, None, 0, None), one], told)
        self.check([(0, 1, None, 0, None), (0, 2, None, 0, None)], False)

    def test_drawn(self):
        draw = random.Random(800)
        for _ in range(100):
            history = drawn_history(draw, TABLE, draw.randint(0, 12))
            self.check(history, True)
            if history:
                # A call more of the same hand, which is under way together with one of them.
                hand, begin, end, _, _ = draw.choice(history)
                used = {moment for call in history for moment in call[1:3]}
                inner = begin + 1 if end is None else draw.randint(begin, end)
                if inner not in used and inner + 5000 not in used:
                    self.check(history + [(hand, inner, inner + 5000, 0, 0)], False)

    def test_no_table(self):
        check_refused(self, BadTable, is_history, [TABLE, HISTORY], 0, NO_TABLE)
        check_refused(self, BadTable, is_history, [TABLE, None], 0, NO_TABLE)


NO_HISTORY = [value for value in odd_values() if value != []] + [[None], HISTORY[0], chain(61), [HISTORY[0]] * 2, [(0, 1, 2, 12, 0)], 5]


class Ahead(unittest.TestCase):
    def test_by_hand(self):
        told = {(1, 2), (1, 3), (1, 4), (2, 3), (2, 4), (0, 4)}
        for one, other in product(range(5), repeat=2):
            self.assertIs(is_ahead(TABLE, HISTORY, one, other), (one, other) in told)
            self.assertIs(is_ahead(table=TABLE, history=tuple(HISTORY), one=one, other=other), (one, other) in told)

    def test_an_end_at_another_calls_begin(self):
        # The moments of a history are unlike, so an end is below a begin or above it.
        self.assertIs(is_ahead(TABLE, [(0, 1, 2, 0, 0), (1, 3, 4, 0, 0)], 0, 1), True)
        check_refused(self, BadHistory, is_ahead, [TABLE, HISTORY, 0, 1], 1, [[(0, 1, 2, 0, 0), (1, 2, 3, 0, 0)]])

    def test_fact_of_four_calls(self):
        draw = random.Random(801)
        for _ in range(30):
            history = drawn_history(draw, TABLE, 6)
            places = range(len(history))
            ahead = {(one, other) for one, other in product(places, repeat=2) if is_ahead(TABLE, history, one, other)}
            for one, other in product(places, repeat=2):
                _, begin, end, _, _ = history[one]
                self.assertEqual((one, other) in ahead, end is not None and end < history[other][1])
            for (a, b), (c, d) in product(ahead, repeat=2):
                self.assertTrue((a, d) in ahead or (c, b) in ahead)

    def test_errors(self):
        args = [TABLE, HISTORY, 0, 1]
        check_refused(self, BadTable, is_ahead, args, 0, NO_TABLE)
        check_refused(self, BadHistory, is_ahead, args, 1, NO_HISTORY)
        places = [None, True, False, -1, 5, 10 ** 18, "0", (0,), [0], {}, ()]
        check_refused(self, BadCall, is_ahead, args, 2, places)
        check_refused(self, BadCall, is_ahead, args, 3, places)
        check_refused(self, BadCall, is_ahead, [TABLE, [], 0, 0], 2, [0])
        check_sequence(self, is_ahead, args, [(0, None, BadTable), (1, None, BadHistory), (2, None, BadCall), (3, None, BadCall)])


class Beginnings(unittest.TestCase):
    def test_by_hand(self):
        opened = [(hand, begin, None, deed, None) for hand, begin, _, deed, _ in HISTORY]
        for moment, told in ((0, []), (1, opened[:1]), (2, opened[:2]), (3, [opened[0], HISTORY[1]]), (4, [opened[0], HISTORY[1], opened[2]]),
                             (5, [opened[0], *HISTORY[1:3]]), (6, [opened[0], *HISTORY[1:4]]), (7, [opened[0], *HISTORY[1:4]]),
                             (8, HISTORY[:4]), (9, HISTORY), (GREATEST, HISTORY)):
            self.assertEqual(beginning(TABLE, HISTORY, moment), told)
            self.assertEqual(beginning(table=TABLE, history=tuple(HISTORY), moment=moment), told)

    def test_drawn(self):
        draw = random.Random(802)
        for _ in range(60):
            history = drawn_history(draw, TABLE, 8)
            for moment in {draw.randint(0, 100), 0, *(moment for call in history for moment in call[1:3] if moment is not None)}:
                told = beginning(TABLE, history, moment)
                self.assertIs(is_history(TABLE, told), True)
                known = [call for call in history if call[1] <= moment]
                self.assertEqual([call[:2] for call in told], [call[:2] for call in known])
                for call, whole in zip(told, known):
                    late = whole[2] is None or whole[2] > moment
                    self.assertEqual(call, (*whole[:2], None, whole[3], None) if late else whole)

    def test_a_list_that_is_returned_is_new(self):
        history = list(HISTORY)
        told = beginning(TABLE, history, 100)
        self.assertEqual(told, history)
        told.clear()
        self.assertEqual(history, HISTORY)
        self.assertEqual(beginning(TABLE, history, 100), HISTORY)

    def test_errors(self):
        args = [TABLE, HISTORY, 3]
        check_refused(self, BadTable, beginning, args, 0, NO_TABLE)
        check_refused(self, BadHistory, beginning, args, 1, NO_HISTORY)
        check_refused(self, BadMoment, beginning, args, 2, [None, True, False, -1, 10 ** 18, "3", (3,), [3], {}, ()])
        check_sequence(self, beginning, args, [(0, None, BadTable), (1, None, BadHistory), (2, None, BadMoment)])


if __name__ == "__main__":
    unittest.main()
