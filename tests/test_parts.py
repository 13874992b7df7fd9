"""Point 83, with point 14: histories of two objects beside one another, and their orders put together."""

import random
import unittest

from seenatonce.errors import BadHistory, BadOrder, BadState, BadTable, TooLarge
from seenatonce.histories import is_history
from seenatonce.orders import order_of
from seenatonce.parts import joined_order, split_history
from seenatonce.tables import counting_table, greatest_table, product
from tests.helpers import bends, check_refused, check_sequence, drawn_tables, odd_values
from tests.test_cells import has_order, is_order_by_words
from tests.test_histories import NO_HISTORY, bent_calls, drawn_history
from tests.test_lots import NO_TABLE
from tests.test_orders import all_orders, answered, spoilt

ONE, OTHER = counting_table(3), greatest_table(2)
# Deeds 0 to 2 are those of the counter, 3 to 5 those of the greatest number.
HISTORY = [(0, 1, 8, 0, 0), (1, 2, 3, 4, 0), (1, 4, 5, 2, 1), (2, 6, 9, 5, 1), (0, 10, None, 3, None)]


class Split(unittest.TestCase):
    def test_by_hand(self):
        told = (((0, 2), [(0, 1, 8, 0, 0), (1, 4, 5, 2, 1)]), ((1, 3, 4), [(1, 2, 3, 1, 0), (2, 6, 9, 2, 1), (0, 10, None, 0, None)]))
        self.assertEqual(split_history(ONE, OTHER, HISTORY), told)
        self.assertEqual(split_history(one=ONE, other=OTHER, history=tuple(HISTORY)), told)

    def test_a_part_without_calls(self):
        self.assertEqual(split_history(ONE, OTHER, []), (((), []), ((), [])))
        self.assertEqual(split_history(ONE, OTHER, HISTORY[:1]), (((0,), HISTORY[:1]), ((), [])))
        self.assertEqual(split_history(ONE, OTHER, HISTORY[1:2]), (((), []), ((0,), [(1, 2, 3, 1, 0)])))

    def test_new_lists(self):
        history = list(HISTORY)
        (_, part), (_, rest) = split_history(ONE, OTHER, history)
        part.clear()
        rest.append(None)
        self.assertEqual(history, HISTORY)
        self.assertEqual(len(split_history(ONE, OTHER, history)[0][1]), 2)

    def test_drawn(self):
        draw = random.Random(830)
        tables = drawn_tables(830, 80)
        for one, other in zip(tables[::2], tables[1::2]):
            history = drawn_history(draw, product(one, other), draw.randint(0, 10))
            (places, part), (others, rest) = split_history(one, other, history)
            self.assertEqual(sorted(places + others), list(range(len(history))))
            self.assertTrue(list(places) == sorted(places) and list(others) == sorted(others))
            self.assertIs(is_history(one, part), True)
            self.assertIs(is_history(other, rest), True)
            for kept, calls, first in ((places, part, 0), (others, rest, len(one))):
                self.assertEqual(len(kept), len(calls))
                for place, (hand, begin, end, deed, answer) in zip(kept, calls):
                    self.assertEqual(history[place], (hand, begin, end, deed + first, answer))

    def test_errors(self):
        args = [ONE, OTHER, HISTORY]
        check_refused(self, BadTable, split_history, args, 0, NO_TABLE)
        check_refused(self, BadTable, split_history, args, 1, NO_TABLE)
        check_refused(self, BadHistory, split_history, args, 2, [*NO_HISTORY, [(0, 1, 2, 6, 0)], *bent_calls(HISTORY[:1])])
        check_sequence(self, split_history, args, [(0, None, BadTable), (1, None, BadTable), (2, None, BadHistory)])

    def test_too_large(self):
        for one, other, large in ((counting_table(6), counting_table(5), None), (counting_table(6), counting_table(6), (36, 6)),
                                  (greatest_table(1), greatest_table(9), None), (greatest_table(2), greatest_table(9), (18, 13)),
                                  (greatest_table(11), greatest_table(11), (121, 24))):
            for call, rest in ((split_history, [[]]), (joined_order, [0, [], [], []])):
                if large is None:
                    call(one, other, *rest)
                else:
                    with self.assertRaises(TooLarge) as caught:
                        call(one, other, *rest)
                    self.assertEqual((caught.exception.states, caught.exception.deeds), large)
                    # Behind both tables, ahead of what follows them.
                    check_sequence(self, call, [one, other, *rest], [(0, None, BadTable), (1, None, BadTable), (2, None, TooLarge)])


class Joined(unittest.TestCase):
    def test_by_hand(self):
        table = product(ONE, OTHER)
        order = joined_order(one=ONE, other=OTHER, begin=0, history=HISTORY, first=[0, 1], second=(0, 1))
        self.assertIs(is_order_by_words(table, 0, HISTORY, order), True)
        self.assertEqual(sorted(order), [0, 1, 2, 3])
        self.assertLess(order.index(0), order.index(2))
        order = joined_order(ONE, OTHER, 0, tuple(HISTORY), [0, 1], [0, 1, 2])
        self.assertEqual((sorted(order), order[-1]), ([0, 1, 2, 3, 4], 4))

    def test_a_part_without_calls(self):
        self.assertEqual(joined_order(ONE, OTHER, 5, [], [], []), [])
        self.assertEqual(joined_order(ONE, OTHER, 5, HISTORY[:1], [0], []), [0])
        self.assertEqual(joined_order(ONE, OTHER, 4, [(0, 1, None, 0, None)], [], []), [])

    def test_the_heads_are_taken_in_time(self):
        # The whole of the second part is ahead of the first one, and the other way about.
        history = [(0, 5, 6, 0, 0), (0, 7, 8, 0, 0), (1, 1, 2, 3, 0), (1, 3, 4, 4, 0)]
        self.assertEqual(joined_order(ONE, OTHER, 0, history, [0, 1], [0, 1]), [2, 3, 0, 1])
        history = [(0, 1, 2, 0, 0), (0, 3, 4, 0, 0), (1, 5, 6, 3, 0), (1, 7, 8, 4, 0)]
        self.assertEqual(joined_order(ONE, OTHER, 0, history, [0, 1], [0, 1]), [0, 1, 2, 3])
        # A call behind the head of the other list, but not the head, is ahead.
        history = [(0, 5, 6, 0, 0), (1, 1, 20, 3, 0), (2, 2, 3, 4, 0)]
        self.assertEqual(joined_order(ONE, OTHER, 0, history, [0], [0, 1]), [1, 2, 0])

    def test_the_state_that_begin_stands_for(self):
        history = [(0, 1, 2, 2, 2), (1, 3, 4, 5, 1)]
        for begin in range(6):
            if begin == 2 * 2 + 1:
                self.assertEqual(joined_order(ONE, OTHER, begin, history, [0], [0]), [0, 1])
            else:
                with self.assertRaises(BadOrder):
                    joined_order(ONE, OTHER, begin, history, [0], [0])

    def test_drawn(self):
        draw = random.Random(831)
        tables = drawn_tables(832, 500, 4, 3, 3)
        both = 0
        for one, other in zip(tables[::2], tables[1::2]):
            table = product(one, other)
            begin = draw.randrange(len(table[0]))
            history = answered(draw, table, begin, drawn_history(draw, table, draw.randint(0, 6), 4))
            history = spoilt(draw, history) if draw.random() < 0.4 else history
            (_, part), (_, rest) = split_history(one, other, history)
            firsts = all_orders(one, begin // len(other[0]), part)
            seconds = all_orders(other, begin % len(other[0]), rest)
            # A history for the product has an order exactly if both of its parts have one.
            self.assertEqual(bool(firsts and seconds), has_order(table, begin, history))
            self.assertEqual(bool(firsts and seconds), order_of(table, begin, history) is not None)
            for _ in range(3):
                if firsts and seconds:
                    first, second = draw.choice(firsts)[0], draw.choice(seconds)[0]
                    self.check_joined(one, other, begin, history, first, second)
                    both += bool(first and second)
        self.assertGreater(both, 150)

    def check_joined(self, one, other, begin, history, first, second):
        order = joined_order(one, other, begin, history, first, second)
        self.assertIs(is_order_by_words(product(one, other), begin, history, order), True)
        (places, _), (others, _) = split_history(one, other, history)
        self.assertEqual([place for place in order if place in places], [places[k] for k in first])
        self.assertEqual([place for place in order if place in others], [others[k] for k in second])
        self.assertEqual(len(order), len(first) + len(second))

    def test_errors(self):
        args = [ONE, OTHER, 0, HISTORY, [0, 1], [0, 1]]
        check_refused(self, BadTable, joined_order, args, 0, NO_TABLE)
        check_refused(self, BadTable, joined_order, args, 1, NO_TABLE)
        check_refused(self, BadState, joined_order, args, 2, [*odd_values(), 6, -1, (0,), "0"])
        check_refused(self, BadHistory, joined_order, args, 3, [*NO_HISTORY, [(0, 1, 2, 6, 0)], *bent_calls(HISTORY[:1])])
        orders = [*odd_values(), [], [0], [1], [1, 0], [0, 1, 1], [0, 2], [0, 1, 3], {0: 0, 1: 1}, [True, 0], *[bent for bent in bends((0, 1)) if bent != [0, 1]]]
        check_refused(self, BadOrder, joined_order, args, 4, orders)
        check_refused(self, BadOrder, joined_order, args, 5, orders)
        check_sequence(self, joined_order, args, [(0, None, BadTable), (1, None, BadTable), (2, None, BadState), (3, None, BadHistory), (4, None, BadOrder),
                                                  (5, None, BadOrder)])

    def test_two_lists_that_go_against_one_another(self):
        # Each keeps the time of its own calls, but not the answers.
        args = [ONE, OTHER, 0, [(0, 1, 4, 0, 0), (1, 2, 3, 2, 1), (2, 5, 8, 4, 0), (3, 6, 7, 5, 1)], [0, 1], [0, 1]]
        self.assertEqual(joined_order(*args), [0, 1, 2, 3])
        check_refused(self, BadOrder, joined_order, args, 4, [[1, 0]])
        check_refused(self, BadOrder, joined_order, args, 5, [[1, 0]])

    def test_what_is_passed_stays(self):
        history, first, second = list(HISTORY), [0, 1], [0, 1]
        joined_order(ONE, OTHER, 0, history, first, second).clear()
        self.assertEqual((history, first, second), (HISTORY, [0, 1], [0, 1]))


if __name__ == "__main__":
    unittest.main()
