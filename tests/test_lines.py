"""Point 22: how many rows lie on a few lines, and the bars that show it."""

import random
import unittest
from itertools import combinations

from seenatonce.errors import BadCount, BadRows, TooMany
from seenatonce.lines import are_bars, are_lines, fewest_lines, most_on_lines
from tests.helpers import below, bends, check_refused, check_sequence, drawn_rows, odd_values, parted

BY_HAND = [(0, 2), (1, 1), (2, 0), (1, 2), (2, 1)]
NO_LIST = [None, True, 5, "ab", {}, {(0,): 1}, [0], [()], [[0]], [(0,), (0, 1)], [(0,) * 7], [(True,)], [(-1,)],
           [(10 ** 18,)], [None]]
NO_COUNT = [None, True, False, -1, 25, 10 ** 18, "1", (1,), [1], {}]


def plain_are_lots(rows, value):
    """By the words: a tuple of non-empty tuples of some of the rows, no row in two of them, or twice in one."""
    if not isinstance(value, tuple) or not all(isinstance(lot, tuple) and len(lot) > 0 for lot in value):
        return False
    told = [row for lot in value for row in lot]
    return all(row in rows for row in told) and all(one != other for one, other in combinations(told, 2))


def plain_are_lines(rows, many, value):
    return plain_are_lots(rows, value) and len(value) <= many and all(
        below(one, other) and one != other for line in value for one, other in zip(line, line[1:]))


def plain_are_bars(rows, value):
    return plain_are_lots(rows, value) and all(
        one < other and parted(one, other) for bar in value for one, other in combinations(bar, 2))


def most_by_search(rows, many):
    """The most rows on so many lines: each row, ascending, is put on each line where it can stand, or left out."""
    def search(left, ends):
        if not left:
            return 0
        best = search(left[1:], ends)
        for k, end in enumerate(ends):
            if end is None or below(end, left[0]):
                best = max(best, 1 + search(left[1:], ends[:k] + (left[0],) + ends[k + 1:]))
            if end is None:
                break
        return best
    return search(sorted(set(rows)), (None,) * many)


class AreLines(unittest.TestCase):
    def test_by_hand(self):
        lines = (((0, 2), (1, 2)), ((2, 0), (2, 1)))
        for many, told in ((0, False), (1, False), (2, True), (24, True)):
            self.assertIs(are_lines(BY_HAND, many, lines), told)
            self.assertIs(are_lines(rows=tuple(BY_HAND), many=many, value=lines), told)
        bars = (((0, 2), (1, 1), (2, 0)), ((1, 2), (2, 1)))
        self.assertIs(are_bars(BY_HAND, bars), True)
        self.assertIs(are_bars(rows=tuple(BY_HAND), value=bars), True)

    def test_edges(self):
        self.assertIs(are_lines([], 0, ()), True)
        self.assertIs(are_bars([], ()), True)
        self.assertIs(are_lines([(0,)], 1, ((),)), False)
        self.assertIs(are_bars([(0,)], ((),)), False)
        self.assertIs(are_lines([(0,), (0,)], 2, (((0,),),)), True)
        self.assertIs(are_lines([(0,), (0,)], 2, (((0,),), ((0,),))), False)
        self.assertIs(are_bars([(0,), (0,)], (((0,),), ((0,),))), False)
        self.assertIs(are_lines([(0,)], 1, (((1,),),)), False)
        self.assertIs(are_bars([(0,)], (((1,),),)), False)
        self.assertIs(are_bars(BY_HAND, (((2, 0), (1, 1)),)), False)
        self.assertIs(are_bars(BY_HAND, (((1, 1), (1, 2)),)), False)
        self.assertIs(are_lines(BY_HAND, 1, (((0, 2), (1, 1)),)), False)

    def test_values_of_other_kinds(self):
        lines = (((0, 1), (1, 1)), ((1, 0),))
        bars = (((0, 1), (1, 0)), ((1, 1),))
        rows = [(0, 1), (1, 0), (1, 1)]
        self.assertIs(are_lines(rows, 2, lines), True)
        self.assertIs(are_bars(rows, bars), True)
        for value in (*odd_values(), *bends(lines), *bends(bars), 5, ((0, 1),), (0, 1)):
            self.assertIs(are_lines(rows, 3, value), False, value)
            self.assertIs(are_bars(rows, value), False, value)

    def test_drawn(self):
        draw = random.Random(7)
        told = {True: 0, False: 0}
        for _ in range(1500):
            rows = drawn_rows(draw, draw.randint(1, 5), 2, 2)
            some = [draw.choice(rows) if draw.random() < 0.97 else (9, 9) for _ in range(draw.randint(0, 4))]
            some = sorted(some) if draw.random() < 0.8 else some
            cut = draw.randint(0, len(some))
            value = tuple(tuple(lot) for lot in (some[:cut], some[cut:]) if lot or draw.random() < 0.05)
            many = draw.randint(0, 3)
            self.assertIs(are_lines(rows, many, value), plain_are_lines(rows, many, value))
            self.assertIs(are_bars(rows, value), plain_are_bars(rows, value))
            told[plain_are_bars(rows, value)] += 1
        self.assertGreater(min(told.values()), 100)

    def test_errors(self):
        check_refused(self, BadRows, are_lines, [BY_HAND, 1, ()], 0, NO_LIST)
        check_refused(self, BadCount, are_lines, [BY_HAND, 1, ()], 1, NO_COUNT)
        check_refused(self, BadRows, are_bars, [BY_HAND, ()], 0, NO_LIST)
        check_sequence(self, are_lines, [BY_HAND, 1, ()], [(0, None, BadRows), (1, None, BadCount)])


class MostOnLines(unittest.TestCase):
    def check(self, rows, many):
        before = list(rows)
        lines, bars = most_on_lines(rows, many)
        unlike = set(rows)
        self.assertEqual(list(rows), before)
        self.assertTrue(plain_are_lines(rows, many, lines), lines)
        self.assertTrue(plain_are_bars(rows, bars), bars)
        self.assertIs(are_lines(rows, many, lines), True)
        self.assertIs(are_bars(rows, bars), True)
        held = sum(len(line) for line in lines)
        self.assertEqual(many * len(bars) + len(unlike) - sum(len(bar) for bar in bars), held)
        self.assertEqual(most_on_lines(list(rows), many), (lines, bars))
        return held

    def test_by_hand(self):
        self.assertEqual([self.check(BY_HAND, many) for many in range(5)], [0, 2, 4, 5, 5])
        for many in (1, 2):
            bars = (((0, 2), (1, 1), (2, 0)), ((1, 2), (2, 1)))
            lines, _ = most_on_lines(rows=BY_HAND, many=many)
            self.assertEqual(sum(len(line) for line in lines), 2 * many)
            self.assertTrue(plain_are_bars(BY_HAND, bars))

    def test_edges(self):
        for many in (0, 1, 24):
            self.assertEqual(most_on_lines([], many), ((), ()))
            self.assertEqual(most_on_lines((), many), ((), ()))
        self.assertEqual(self.check([(3,)], 0), 0)
        self.assertEqual(self.check([(3,)], 1), 1)
        self.assertEqual(self.check([(3,), (3,), (1,)], 1), 2)

    def test_drawn(self):
        draw = random.Random(8)
        for _ in range(250):
            rows = drawn_rows(draw, draw.randint(1, 7), draw.randint(1, 3), draw.randint(1, 3))
            held = [self.check(rows, many) for many in range(5)]
            self.assertEqual(held, [most_by_search(rows, many) for many in range(5)])
            added = [more - less for less, more in zip(held, held[1:])]
            self.assertEqual(added, sorted(added, reverse=True))

    def test_a_longest_line_may_have_to_be_given_up(self):
        # The only line of four rows, (1, 1), (2, 1), (3, 1), (4, 3), leaves two that are parted.
        rows = [(1, 1), (2, 1), (2, 4), (3, 0), (3, 1), (4, 3)]
        self.assertEqual([self.check(rows, many) for many in range(4)], [0, 4, 6, 6])

    def test_24_rows(self):
        draw = random.Random(9)
        for items, top in ((1, 40), (2, 6), (3, 3), (6, 1)):
            rows = []
            while len(set(rows)) < 24:
                rows += drawn_rows(draw, 1, items, top)
            for many in (0, 1, 3, 12, 24):
                self.check(rows, many)
        self.assertEqual(self.check([(k, 23 - k) for k in range(24)], 5), 5)
        self.assertEqual(self.check([(k, 23 - k) for k in range(24)] * 2, 24), 24)

    def test_errors(self):
        check_refused(self, BadRows, most_on_lines, [BY_HAND, 1], 0, NO_LIST)
        check_refused(self, BadCount, most_on_lines, [BY_HAND, 1], 1, NO_COUNT)
        many = [(k,) for k in range(25)]
        check_refused(self, TooMany, most_on_lines, [BY_HAND, 1], 0, [many, tuple(many), many[::-1] * 2])
        check_refused(self, BadCount, most_on_lines, [many, 1], 1, NO_COUNT)
        check_sequence(self, most_on_lines, [BY_HAND, 1], [(0, 1, BadRows), (1, 25, BadCount)])
        with self.assertRaises(TooMany) as caught:
            most_on_lines(many, 0)
        self.assertEqual(caught.exception.most, 24)
        self.assertEqual(self.check(many[:24] + many[:24], 1), 24)


class FewestLines(unittest.TestCase):
    def check(self, rows):
        before = list(rows)
        lines, lot = fewest_lines(rows)
        self.assertEqual(list(rows), before)
        self.assertTrue(plain_are_lines(rows, 24, lines), lines)
        self.assertEqual(sorted(row for line in lines for row in line), sorted(set(rows)))
        self.assertTrue(plain_are_bars(rows, (lot,) if lot else ()), lot)
        self.assertEqual(len(lot), len(lines))
        self.assertEqual(fewest_lines(tuple(rows)), (lines, lot))
        return len(lines)

    def test_by_hand(self):
        lines, lot = fewest_lines(rows=BY_HAND)
        self.assertEqual(len(lines), 3)
        self.assertEqual(lot, ((0, 2), (1, 1), (2, 0)))
        self.assertEqual(self.check(BY_HAND), 3)

    def test_edges(self):
        self.assertEqual(fewest_lines([]), ((), ()))
        self.assertEqual(fewest_lines(()), ((), ()))
        self.assertEqual(fewest_lines([(2, 1), (2, 1)]), ((((2, 1),),), ((2, 1),)))

    def test_drawn(self):
        draw = random.Random(10)
        for _ in range(250):
            rows = drawn_rows(draw, draw.randint(1, 7), draw.randint(1, 3), draw.randint(1, 3))
            many = self.check(rows)
            self.assertEqual(most_by_search(rows, many), len(set(rows)))
            self.assertLess(most_by_search(rows, many - 1), len(set(rows)))
            unlike = sorted(set(rows))
            wider = [lot for lot in combinations(unlike, many + 1) if all(parted(*two) for two in combinations(lot, 2))]
            self.assertEqual(wider, [])

    def test_24_rows(self):
        draw = random.Random(11)
        for items, top in ((1, 40), (2, 6), (3, 3), (6, 1)):
            rows = []
            while len(set(rows)) < 24:
                rows += drawn_rows(draw, 1, items, top)
            self.check(rows)
        self.assertEqual(self.check([(k, 23 - k) for k in range(24)]), 24)
        self.assertEqual(self.check([(k, k) for k in range(24)]), 1)

    def test_errors(self):
        check_refused(self, BadRows, fewest_lines, [BY_HAND], 0, NO_LIST)
        with self.assertRaises(TooMany) as caught:
            fewest_lines([(k,) for k in range(25)])
        self.assertEqual(caught.exception.most, 24)


if __name__ == "__main__":
    unittest.main()
