"""Points 84, 81 and 14: plain histories of one cell, their clashes and their orders."""

import random
import unittest

from seenatonce.cells import cell_order, clash_of
from seenatonce.errors import BadHistory, BadMany, BadState, NotPlain
from seenatonce.tables import cells_table
from tests.helpers import GREATEST, check_refused, check_sequence, odd_values
from tests.test_histories import NO_HISTORY, bent_calls

# The example of [84].
HISTORY = [(0, 1, 4, 1, 0), (1, 2, 3, 3, 1), (1, 5, 9, 3, 0)]


def drawn_plain(draw, many, begin, most):
    """A plain history of a cell: sets of unlike states, tells whose answers are often right."""
    moments = iter(sorted(draw.sample(range(200), 2 * most)))
    calls, busy = [], {}
    left = draw.sample([state for state in range(many) if state != begin], many - 1)
    held = begin
    for moment in moments:
        hand = draw.randrange(draw.choice((2, 4, 6)))
        if hand not in busy:
            deed = left.pop() if left and draw.random() < 0.4 else many
            busy[hand] = len(calls)
            calls.append((hand, moment, None, deed, None))
            held = deed if deed < many and draw.random() < 0.5 else held
        elif draw.random() < 0.9:
            place = busy.pop(hand)
            deed = calls[place][3]
            near = draw.choice([held, begin, draw.randint(0, many)] + [call[3] for call in calls if call[3] < many])
            told = (held if draw.random() < 0.6 else near) if deed == many else int(draw.random() < 0.03)
            calls[place] = calls[place][:2] + (moment, deed, told)
            held = deed if deed < many and draw.random() < 0.5 else held
    return draw.sample(calls, len(calls))


def is_order_by_words(table, begin, history, value):
    """By the words of [81]."""
    if len(set(value)) != len(value) or not all(k in value for k, call in enumerate(history) if call[2] is not None):
        return False
    for k, one in enumerate(value):
        for other in value[:k]:
            if history[one][2] is not None and history[one][2] < history[other][1]:
                return False
    state = begin
    for place in value:
        state, answer = table[history[place][3]][state]
        if history[place][2] is not None and answer != history[place][4]:
            return False
    return True


def has_order(table, begin, history):
    """A plain search through all sequences, with what was seen kept."""
    seen = set()

    def search(taken, state):
        if all(k in taken for k, call in enumerate(history) if call[2] is not None):
            return True
        if (taken, state) in seen:
            return False
        seen.add((taken, state))
        for k, call in enumerate(history):
            ahead = any(j not in taken and other[2] is not None and other[2] < call[1] for j, other in enumerate(history))
            if k not in taken and not ahead:
                behind, answer = table[call[3]][state]
                if (call[2] is None or answer == call[4]) and search(taken | {k}, behind):
                    return True
        return False

    return search(frozenset(), begin)


def clash_by_words(many, begin, history):
    """By the words of [84], with the moments of the calls as they are told there."""
    calls = dict(enumerate(history))
    for k, call in calls.items():
        if call[3] < many and call[2] is not None and call[4] != 0:
            return ("answer", k)
    setter = {call[3]: k for k, call in calls.items() if call[3] < many}
    told = {call[4] for call in history if call[3] == many and call[2] is not None}
    low, high = -10, 10 ** 20
    for k, call in calls.items():
        if call[3] == many and call[2] is not None and call[4] != begin:
            if call[4] not in setter:
                return ("unset", k)
            sets = history[setter[call[4]]]
            if call[2] < sets[1]:
                return ("unset", k)
    spans = {}
    for state in range(many):
        lot = [(low, low + 1)] if state == begin else []
        for call in history:
            end = high if call[2] is None else call[2]
            if call[3] == state and (call[2] is not None or state in told) or call[3] == many and call[2] is not None and call[4] == state:
                lot.append((call[1], end))
        if lot:
            least, greatest = min(end for _, end in lot), max(start for start, _ in lot)
            spans[state] = ("straight", least, greatest) if least < greatest else ("turned", greatest, least)
    pairs = [(v, w) for v in sorted(spans) for w in sorted(spans)]
    for v, w in pairs:
        if v < w and spans[v][0] == spans[w][0] == "straight" and max(spans[v][1], spans[w][1]) <= min(spans[v][2], spans[w][2]):
            return ("both", v, w)
    for v, w in pairs:
        if (spans[v][0], spans[w][0]) == ("turned", "straight") and spans[w][1] <= spans[v][1] and spans[v][2] <= spans[w][2]:
            return ("within", v, w)
    return None


class ByHand(unittest.TestCase):
    def check(self, many, begin, history, clash):
        self.assertEqual(clash_of(many, begin, history), clash)
        self.assertEqual(clash_of(many=many, begin=begin, history=tuple(history)), clash)
        order = cell_order(many=many, begin=begin, history=history)
        if clash is None:
            self.assertIs(is_order_by_words(cells_table(1, many), begin, history, order), True)
        else:
            self.assertIsNone(order)
        self.assertEqual(clash is None, has_order(cells_table(1, many), begin, history))

    def test_the_example(self):
        self.check(3, 0, HISTORY, ("within", 1, 0))
        self.check(3, 0, HISTORY[:2] + [(1, 5, 9, 3, 1)], None)

    def test_no_calls(self):
        for many in range(1, 12):
            self.assertIsNone(clash_of(many, many - 1, []))
            self.assertEqual(cell_order(many, 0, ()), [])

    def test_a_cell_with_one_state(self):
        self.check(1, 0, [(0, 0, 1, 1, 0), (1, 2, 3, 1, 0)], None)
        self.check(1, 0, [(0, 0, 1, 1, 0), (1, 2, 3, 1, 5)], ("unset", 1))
        check_refused(self, NotPlain, clash_of, [1, 0, []], 2, [[(0, 0, 1, 0, 0)]])

    def test_a_set_that_is_answered(self):
        self.check(3, 0, [(0, 1, 2, 1, 0), (0, 3, 4, 2, 1), (1, 5, 6, 3, 9)], ("answer", 1))
        self.check(3, 0, [(1, 5, 6, 3, 9), (0, 1, 2, 1, 7), (0, 3, 4, 2, 1)], ("answer", 1))

    def test_a_tell_of_what_is_not_set(self):
        self.check(3, 0, [(0, 1, 2, 1, 0), (1, 3, 4, 3, 2)], ("unset", 1))
        self.check(3, 0, [(0, 1, 2, 3, 3)], ("unset", 0))
        self.check(3, 0, [(0, 1, 2, 3, GREATEST)], ("unset", 0))
        # A tell that is ahead of the call that sets its answer, and one that is not.
        self.check(3, 0, [(0, 3, 4, 1, 0), (1, 1, 2, 3, 1)], ("unset", 1))
        self.check(3, 0, [(0, 3, 5, 1, 0), (1, 1, 4, 3, 1)], None)
        self.check(3, 0, [(0, 3, None, 1, None), (1, 1, 2, 3, 1)], ("unset", 1))

    def test_a_tell_of_begin(self):
        self.check(3, 1, [(0, 1, 2, 3, 1)], None)
        self.check(3, 1, [(0, 1, 2, 3, 0)], ("unset", 0))
        # Behind a set that ended, of which nobody told, begin is gone.
        self.check(3, 1, [(0, 1, 2, 0, 0), (1, 3, 4, 3, 1)], ("within", 0, 1))
        self.check(3, 1, [(0, 1, 3, 0, 0), (1, 2, 4, 3, 1)], None)

    def test_open_calls(self):
        # An open tell means nothing; an open set may have been done, or not.
        self.check(3, 0, [(0, 1, None, 3, None), (1, 2, 3, 3, 0)], None)
        self.check(3, 0, [(0, 1, None, 1, None), (1, 2, 3, 3, 1), (1, 4, 5, 3, 1)], None)
        self.check(3, 0, [(0, 1, None, 1, None), (1, 2, 3, 3, 0), (1, 4, 5, 3, 1)], None)
        self.check(3, 0, [(0, 1, None, 1, None), (1, 2, 3, 3, 1), (1, 4, 5, 3, 0)], ("within", 1, 0))
        self.check(3, 0, [(0, 1, None, 1, None), (1, 2, 3, 3, 0), (1, 4, 5, 3, 0)], None)
        order = cell_order(3, 0, [(0, 1, None, 1, None), (2, 6, None, 3, None), (1, 2, 3, 3, 0)])
        self.assertIn(2, order)

    def test_two_straight_lots(self):
        history = [(0, 1, 2, 1, 0), (1, 3, 4, 2, 0), (0, 5, 6, 3, 1), (1, 7, 8, 3, 2)]
        self.check(3, 0, history, ("both", 1, 2))
        self.check(3, 0, [history[0], history[2], (1, 7, 8, 2, 0), (1, 9, 10, 3, 2)], None)
        self.check(3, 0, [history[0], (1, 3, 4, 3, 0), (2, 5, 6, 3, 1)], ("both", 0, 1))

    def test_a_turned_lot_across_straight_ones(self):
        # The set of 2 is under way from within the lot of 1 to behind it; then to within the next one.
        history = [(0, 1, 2, 1, 0), (1, 3, 9, 2, 0), (0, 5, 6, 3, 1)]
        self.check(3, 0, history, None)
        self.assertEqual(cell_order(3, 0, history), [0, 2, 1])
        history = [(0, 1, 2, 1, 0), (1, 3, 9, 2, 0), (0, 5, 6, 4, 1), (2, 7, 8, 3, 0), (2, 10, 11, 4, 3)]
        self.check(4, 0, history, None)
        self.check(4, 0, [history[0], (1, 3, 4, 2, 0), *history[2:]], ("within", 2, 1))

    def test_a_long_history(self):
        # One state behind another, each told by five hands at once.
        history, place = [], 0
        for state in range(1, 11):
            history.append((0, place, place + 1, state, 0))
            history += [(hand, place + 2 * hand, place + 30 - hand, 11, state) for hand in range(1, 6)]
            place += 40
        self.check(11, 0, history, None)
        self.assertEqual(len(history), 60)
        # A tell of 1 behind all: its lot reaches over all later ones.
        self.assertEqual(clash_of(11, 0, history[:59] + [(0, 500, 501, 11, 1)]), ("both", 1, 2))
        self.assertIsNone(cell_order(11, 0, history[:59] + [(0, 500, 501, 11, 1)]))

    def test_great_moments(self):
        self.check(3, 0, [(0, 0, GREATEST, 1, 0), (1, GREATEST - 2, GREATEST - 1, 3, 1)], None)
        self.check(3, 0, [(0, 0, 1, 1, 0), (1, GREATEST - 1, GREATEST, 3, 0)], ("within", 1, 0))

    def test_a_list_that_is_returned_is_new(self):
        history = HISTORY[:2]
        cell_order(3, 0, history).clear()
        self.assertEqual(cell_order(3, 0, history), [0, 1])
        self.assertEqual(history, HISTORY[:2])


class Drawn(unittest.TestCase):
    def test_small_histories(self):
        draw = random.Random(840)
        seen = {}
        for _ in range(3000):
            many = draw.randint(1, 5)
            begin = draw.randrange(many)
            history = drawn_plain(draw, many, begin, draw.randint(0, 8))
            table = cells_table(1, many)
            clash = clash_of(many, begin, history)
            self.assertEqual(clash, clash_by_words(many, begin, history))
            self.assertEqual(clash is None, has_order(table, begin, history), (many, begin, history))
            order = cell_order(many, begin, history)
            if clash is None:
                self.assertIs(is_order_by_words(table, begin, history, order), True)
            else:
                self.assertIsNone(order)
            kind = clash and clash[0]
            seen[kind] = seen.get(kind, 0) + 1
        self.assertEqual(set(seen), {None, "answer", "unset", "both", "within"})
        self.assertGreater(min(seen.values()), 40)

    def test_a_clash_of_two_lots_stays(self):
        draw = random.Random(841)
        seen = 0
        for _ in range(1500):
            history = drawn_plain(draw, 4, 0, 8)
            clash = clash_of(4, 0, history)
            if clash is not None and clash[0] in ("both", "within"):
                lots = [call for call in history if call[3] in clash[1:] or call[3] == 4 and call[4] in clash[1:]]
                rest = [call for call in history if call in lots or draw.random() < 0.5]
                left = {call[3] for call in rest} | {0, 4}
                rest = [call for call in rest if call[3] != 4 or call[4] is None or call[4] in left]
                self.assertIn(clash_of(4, 0, rest)[0], ("both", "within"))
                self.assertIn(clash_of(4, 0, lots)[0], ("both", "within"))
                seen += 1
        self.assertGreater(seen, 100)


class Errors(unittest.TestCase):
    def test_errors(self):
        for call in (clash_of, cell_order):
            args = [3, 0, HISTORY]
            check_refused(self, BadMany, call, args, 0, [*odd_values(), 0, 12, -1, (), "3", (3,)])
            check_refused(self, BadState, call, args, 1, [*odd_values(), 3, -1, (), "0", (0,)])
            check_refused(self, BadHistory, call, args, 2, [*NO_HISTORY, [(0, 1, 2, 4, 0)], *bent_calls(HISTORY)])
            check_refused(self, BadHistory, call, args, 0, [2])
            check_sequence(self, call, args, [(0, True, BadMany), (1, 3, BadState), (2, None, BadHistory)])

    def test_histories_that_are_not_plain(self):
        once, again = (0, 1, 2, 1, 0), (1, 3, 4, 1, 0)
        opened = (2, 5, None, 1, None)
        for call in (clash_of, cell_order):
            check_refused(self, NotPlain, call, [3, 0, HISTORY], 2, [[once, again], [once, opened], [(0, 1, 2, 0, 0)], [(0, 1, None, 0, None)],
                                                                     [once, (2, 5, 6, 2, 0), again], [(0, 1, 2, 1, 9), again]])
            check_refused(self, NotPlain, call, [3, 0, HISTORY], 1, [1])
            check_sequence(self, call, [3, 0, HISTORY], [(2, [(0, 1, 2, 9, 0)], BadHistory), (2, [once, again], NotPlain)])
        self.assertIsNone(clash_of(3, 0, [once, (1, 3, 4, 2, 0)]))


if __name__ == "__main__":
    unittest.main()
