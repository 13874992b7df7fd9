"""Point 81, with points 10 and 80: orders of histories, the states in which they end, and the first wrong moment."""

import random
import unittest

from seenatonce.errors import BadHistory, BadState, BadTable, TooMany
from seenatonce.histories import beginning
from seenatonce.orders import first_wrong, is_order, order_of, states_behind
from seenatonce.tables import counting_table, growing_table
from tests.helpers import GREATEST, bends, check_refused, check_sequence, drawn_tables, odd_values
from tests.test_cells import has_order, is_order_by_words
from tests.test_histories import NO_HISTORY, bent_calls, chain, drawn_history
from tests.test_lots import NO_TABLE

# The example of [81]: add and tell.
TABLE = (((1, 0), (2, 0), (2, 0)), ((0, 0), (1, 1), (2, 2)))
WRONG = [(0, 1, 8, 0, 0), (1, 2, 3, 1, 1), (1, 4, 5, 1, 0)]
RIGHT = WRONG[:2] + [(1, 4, 5, 1, 1)]


def all_orders(table, begin, history):
    """All orders, each with the state in which it ends: a plain walk through all sequences of unlike places."""
    ahead = {(k, j) for k, one in enumerate(history) for j, other in enumerate(history) if one[2] is not None and one[2] < other[1]}
    closed = {k for k, call in enumerate(history) if call[2] is not None}

    def walk(taken, state):
        if closed <= set(taken):
            yield list(taken), state
        for k, call in enumerate(history):
            if k not in taken and not any((k, other) in ahead for other in taken):
                behind, answer = table[call[3]][state]
                if call[2] is None or answer == call[4]:
                    yield from walk(taken + [k], behind)

    return list(walk([], begin))


def answered(draw, table, begin, history):
    """The history with the answers of a sequence that keeps time."""
    left, state, told = list(range(len(history))), begin, {}
    while left:
        heads = [k for k in left if not any(history[j][2] is not None and history[j][2] < history[k][1] for j in left)]
        k = draw.choice(heads)
        left.remove(k)
        if history[k][2] is not None or draw.random() < 0.5:
            state, told[k] = table[history[k][3]][state]
    return [call if call[2] is None else (*call[:4], told[k]) for k, call in enumerate(history)]


def spoilt(draw, history):
    """The history with another answer of one of its calls."""
    ended = [k for k, call in enumerate(history) if call[2] is not None]
    if ended:
        k = draw.choice(ended)
        history = [*history[:k], (*history[k][:4], draw.randint(0, 3)), *history[k + 1:]]
    return history


def drawn_cases(seed, many, most=5):
    draw = random.Random(seed)
    for table in drawn_tables(seed, many, 4, 3, 3):
        begin = draw.randrange(len(table[0]))
        history = answered(draw, table, begin, drawn_history(draw, table, draw.randint(0, most), 3))
        yield draw, table, begin, spoilt(draw, history) if draw.random() < 0.5 else history


class ByHand(unittest.TestCase):
    def check(self, begin, history, orders, wrong, table=TABLE):
        """All orders of the history, in any sequence, and the first wrong moment."""
        for told in (history, tuple(history)):
            self.assertEqual(first_wrong(table=table, begin=begin, history=told), wrong)
            found = order_of(table=table, begin=begin, history=told)
            self.assertTrue(found is None if not orders else found in orders)
            self.assertEqual(states_behind(table=table, begin=begin, history=told), sorted({state for _, state in all_orders(table, begin, history)}))
        self.assertEqual(sorted(order for order, _ in all_orders(table, begin, history)), sorted(orders))
        for order in orders:
            self.assertIs(is_order(table=table, begin=begin, history=history, value=order), True)
            self.assertIs(is_order(table, begin, history, tuple(order)), True)

    def test_the_example(self):
        self.check(0, WRONG, [], 5)
        self.check(0, RIGHT, [[0, 1, 2]], None)
        opened = [(0, 1, None, 0, None)] + RIGHT[1:]
        self.check(0, opened, [[0, 1, 2]], None)
        self.check(0, RIGHT[:2] + [(1, 6, None, 1, None)], [[0, 1], [0, 1, 2]], None)
        self.assertEqual(states_behind(TABLE, 0, RIGHT), [1])

    def test_no_calls(self):
        self.check(2, [], [[]], None)
        self.assertEqual(order_of(TABLE, 1, ()), [])
        self.assertEqual(states_behind(TABLE, 1, []), [1])

    def test_open_calls_stand_in_an_order_or_not(self):
        history = [(0, 1, None, 0, None), (1, 2, None, 0, None)]
        self.check(0, history, [[], [0], [1], [0, 1], [1, 0]], None)
        self.assertEqual(states_behind(TABLE, 0, history), [0, 1, 2])
        history.append((2, 3, 4, 1, 2))
        self.check(0, history, [[0, 1, 2], [1, 0, 2]], None)
        # An open call stands behind those that are ahead of it.
        history = [(0, 1, 2, 1, 0), (0, 3, None, 0, None)]
        self.check(0, history, [[0], [0, 1]], None)
        self.check(1, history, [], 2)
        # It may be done ahead of one that began behind it, but not of one that ended ahead of it.
        self.check(0, [(0, 3, None, 0, None), (1, 1, 2, 1, 1)], [], 2)
        self.check(0, [(0, 1, None, 0, None), (1, 2, 3, 1, 1)], [[0, 1]], None)

    def test_the_first_wrong_moment_is_the_least(self):
        history = [(0, 1, 2, 1, 0), (1, 3, 4, 1, 9), (0, 5, 6, 1, 8)]
        self.check(0, history, [], 4)
        self.check(0, history[::-1], [], 4)
        self.check(0, [history[0], history[2]], [], 6)
        self.check(0, [(0, 1, 9, 1, 5), (1, 2, 7, 1, 0)], [], 9)

    def test_calls_whose_end_is_the_begin_of_no_other(self):
        # Moments are unlike: an end is just below the next begin, or just above.
        self.check(0, [(0, 1, 2, 0, 0), (1, 3, 4, 1, 0)], [], 4)
        self.check(0, [(0, 1, 3, 0, 0), (1, 2, 4, 1, 0)], [[1, 0]], None)
        for call in (order_of, states_behind, first_wrong):
            check_refused(self, BadHistory, call, [TABLE, 0, []], 2, [[(0, 1, 2, 0, 0), (1, 2, 4, 1, 0)]])

    def test_great_moments(self):
        self.check(0, [(0, GREATEST - 3, GREATEST - 2, 0, 0), (1, GREATEST - 1, GREATEST, 1, 0)], [], GREATEST)
        self.check(0, [(0, 0, GREATEST, 0, 0), (1, GREATEST - 2, GREATEST - 1, 1, 0)], [[1, 0]], None)

    def test_a_list_that_is_returned_is_new(self):
        order_of(TABLE, 0, RIGHT).clear()
        states_behind(TABLE, 0, RIGHT).clear()
        self.assertEqual((order_of(TABLE, 0, RIGHT), states_behind(TABLE, 0, RIGHT)), ([0, 1, 2], [1]))


class IsOrder(unittest.TestCase):
    def check(self, history, value, told):
        self.assertIs(is_order(TABLE, 0, history, value), told, value)

    def test_places_gone_twice_and_exchanged(self):
        for value, told in (([0, 1, 2], True), ((0, 1, 2), True), ([0, 1], False), ([], False), ([1, 2], False), ([0, 1, 2, 2], False), ([0, 0, 1, 2], False),
                            ([0, 2, 1], False), ([1, 0, 2], False), ([0, 1, 2, 3], False), ([0, 1, -1], False), ([0, 1, 2, None], False)):
            self.check(RIGHT, value, told)

    def test_other_values(self):
        history = RIGHT[:2] + [(1, 6, None, 1, None)]
        for value in (*odd_values(), {0: 0, 1: 1, 2: 2}, "012", 0, [[0, 1, 2]], [(0, 1, 2)], [0, True, 2], [False, 1, 2], ["0", "1", "2"], {0, 1, 2}):
            self.check(history, value, False)
        for bent in bends((0, 1, 2)):
            self.check(RIGHT, bent, bent == [0, 1, 2])

    def test_sixty_calls(self):
        table = counting_table(30)
        history = [(k % 6, 10 * k, 10 * k + 15, 0, 0) for k in range(59)] + [(5, 1000, 1001, 2, 29)]
        order = list(range(60))
        self.assertIs(is_order(table, 0, history, order), True)
        self.assertIs(is_order(table, 0, history, [1, 0, *order[2:]]), True)
        self.assertIs(is_order(table, 0, history, [2, 0, 1, *order[3:]]), False)
        self.assertIs(is_order(table, 1, history, order), False)
        self.assertIs(is_order(table, 0, history, order[:-1]), False)
        check_refused(self, BadHistory, is_order, [table, 0, history, order], 2, [history + [(4, 2000, 2001, 0, 0)]])

    def test_drawn(self):
        told = {True: 0, False: 0}
        for draw, table, begin, history in drawn_cases(811, 200):
            places = range(len(history))
            for order, _ in all_orders(table, begin, history)[:5]:
                self.assertIs(is_order(table, begin, history, order), True)
                near = list(order)
                for _ in range(draw.randint(1, 2)):
                    if near and draw.random() < 0.5:
                        near.insert(draw.randrange(len(near)), near.pop(draw.randrange(len(near))))
                    elif history:
                        near = near[:-1] if draw.random() < 0.5 else near + [draw.choice(places)]
                wanted = is_order_by_words(table, begin, history, near)
                self.assertIs(is_order(table, begin, history, near), wanted)
                told[wanted] += 1
        self.assertGreater(min(told.values()), 50)


class Drawn(unittest.TestCase):
    def test_against_a_plain_search(self):
        seen = {True: 0, False: 0}
        for draw, table, begin, history in drawn_cases(812, 500):
            orders = all_orders(table, begin, history)
            self.assertEqual(states_behind(table, begin, history), sorted({state for _, state in orders}))
            found = order_of(table, begin, history)
            self.assertTrue(found in [order for order, _ in orders] if orders else found is None)
            ends = sorted(call[2] for call in history if call[2] is not None)
            wrong = [moment for moment in ends if not all_orders(table, begin, beginning(table, history, moment))]
            self.assertEqual(first_wrong(table, begin, history), wrong[0] if wrong else None)
            self.assertEqual(bool(wrong), not orders)
            if wrong:
                self.assertEqual(wrong, ends[ends.index(wrong[0]):])
                self.assertTrue(wrong[0] == 0 or all_orders(table, begin, beginning(table, history, wrong[0] - 1)))
            seen[bool(orders)] += 1
        self.assertGreater(min(seen.values()), 100)

    def test_fourteen_calls(self):
        draw = random.Random(813)
        for table in drawn_tables(813, 25, 5, 3, 2):
            begin = draw.randrange(len(table[0]))
            history = answered(draw, table, begin, chain(5, 0) + [(1 + k % 5, 11 + 20 * k, 40 + 20 * k, draw.randrange(len(table)), 0) for k in range(9)])
            if draw.random() < 0.5:
                history = spoilt(draw, history)
            self.assertEqual(len(history), 14)
            found = order_of(table, begin, history)
            self.assertEqual(found is not None, has_order(table, begin, history))
            self.assertEqual(found is None, states_behind(table, begin, history) == [])
            self.assertEqual(found is None, first_wrong(table, begin, history) is not None)
            if found is not None:
                self.assertIs(is_order_by_words(table, begin, history, found), True)

    def test_fourteen_calls_at_once(self):
        table = growing_table(4)
        history = [(hand, 100 * k + hand, 100 * k + 50 - hand, 4 if k else hand % 4, 15 if k else 0) for hand in range(6) for k in range(2)]
        history += [(0, 500, None, 0, None), (1, 501, None, 1, None)]
        self.assertEqual(len(history), 14)
        self.assertIs(is_order(table, 0, history, order_of(table, 0, history)), True)
        self.assertEqual(states_behind(table, 0, history), [15])
        self.assertEqual(first_wrong(table, 0, history[:-3] + [(5, 100 + 5, 145, 4, 14)] + history[-2:]), 145)


class Errors(unittest.TestCase):
    def test_errors(self):
        for call, args in ((is_order, [TABLE, 0, RIGHT, [0, 1, 2]]), (order_of, [TABLE, 0, RIGHT]), (states_behind, [TABLE, 0, RIGHT]), (first_wrong, [TABLE, 0, RIGHT])):
            check_refused(self, BadTable, call, args, 0, NO_TABLE)
            check_refused(self, BadState, call, args, 1, [*odd_values(), 3, -1, "0", (0,), [0]])
            check_refused(self, BadHistory, call, args, 2, [*NO_HISTORY, *bent_calls(RIGHT), [(0, 1, 2, 2, 0)]])
            check_sequence(self, call, args, [(0, None, BadTable), (1, None, BadState), (2, None, BadHistory)])

    def test_fifteen_calls(self):
        for call in (order_of, states_behind, first_wrong):
            for history in (chain(15), chain(60), chain(14) + [(1, 500, None, 0, None)]):
                with self.assertRaises(TooMany) as caught:
                    call(TABLE, 0, history)
                self.assertEqual(caught.exception.most, 14)
            self.assertIsNot(call(counting_table(3), 0, chain(14)), call)
            check_sequence(self, call, [TABLE, 0, chain(15)], [(1, 3, BadState), (2, chain(15)[::-1] + [None], BadHistory), (2, chain(15), TooMany)])
        self.assertIs(is_order(counting_table(3), 0, chain(15), list(range(15))), True)


if __name__ == "__main__":
    unittest.main()
