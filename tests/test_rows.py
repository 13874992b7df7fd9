"""Points 20 and 21: rows, which are below or parted, and lines."""

import random
import unittest
from itertools import permutations

from seenatonce.errors import BadLine, BadRow, BadRows, Parted
from seenatonce.rows import common, first_parted, fits, is_below, is_line, joined, line_of
from tests.helpers import GREATEST, below, bends, check_refused, check_sequence, drawn_rows, odd_values, parted

NO_ROWS = [*odd_values(), (), (0,) * 7, 0, 5, "12", (0, -1), (0, 10 ** 18), (0, True), (0, "1"), [0, 1], ((0,),)]


def plain_is_line(rows):
    for one, other in zip(rows, rows[1:]):
        if one == other or not below(one, other):
            return False
    return True


class BelowAndJoined(unittest.TestCase):
    def test_is_below(self):
        for one, other, told in (((0,), (0,), True), ((1,), (0,), False), ((0, 2), (1, 2), True),
                                 ((0, 2), (2, 0), False), ((GREATEST,) * 6, (GREATEST,) * 6, True)):
            self.assertIs(is_below(one, other), told)
            self.assertIs(is_below(one=one, other=other), told)

    def test_is_below_drawn(self):
        draw = random.Random(1)
        for _ in range(300):
            one, other = drawn_rows(draw, 2, draw.randint(1, 6), 2) if draw.random() < 0.9 else [(1, 1), (1, 1)]
            self.assertIs(is_below(one, other), below(one, other))

    def test_is_below_errors(self):
        check_refused(self, BadRow, is_below, [(0, 1), (0, 1)], 0, [*NO_ROWS, *bends((0, 1)), (0, 1, 2), (0,)])
        check_refused(self, BadRow, is_below, [(0, 1), (0, 1)], 1, [*NO_ROWS, *bends((0, 1)), (0, 1, 2), (0,)])

    def test_joined_and_common(self):
        rows = [(0, 2, 1), (1, 1, 1), (0, 0, 5)]
        self.assertEqual(joined(rows), (1, 2, 5))
        self.assertEqual(common(rows), (0, 0, 1))
        self.assertEqual(joined(rows=tuple(rows)), (1, 2, 5))
        self.assertEqual(common(rows=tuple(rows)), (0, 0, 1))
        self.assertEqual(rows, [(0, 2, 1), (1, 1, 1), (0, 0, 5)])
        self.assertEqual((joined([(3,)]), common([(3,)])), ((3,), (3,)))

    def test_joined_and_common_are_the_nearest(self):
        draw = random.Random(2)
        for _ in range(100):
            items = draw.randint(1, 3)
            rows = drawn_rows(draw, draw.randint(1, 4), items, 2)
            for row in drawn_rows(draw, 10, items, 2):
                self.assertIs(all(below(told, row) for told in rows), is_below(joined(rows), row))
                self.assertIs(all(below(row, told) for told in rows), is_below(row, common(rows)))

    def test_rows_that_are_none(self):
        wrong = [None, True, 5, "ab", {}, {(0,): 1}, [0], [()], [[0]], ([0],), [(0,), [0]], [(0,), (0, 1)],
                 [(0, 1), (0,)], [(0,) * 7], [(True,)], [(0,), (1,), (-1,)], [(10 ** 18,)], [(0,), None], [None]]
        for call in (joined, common, first_parted, line_of):
            check_refused(self, BadRows, call, [[(0,)]], 0, wrong)
        for call in (joined, common):
            check_refused(self, BadRows, call, [[(0,)]], 0, [[], ()])
        for bent in bends(((0, 1), (1, 1))):
            if not isinstance(bent, list):
                check_refused(self, BadRows, first_parted, [[(0,)]], 0, [bent])


class FirstParted(unittest.TestCase):
    def test_none(self):
        for rows in ([], (), [(1,)], [(2,), (0,), (1,), (1,)], [(1, 1), (1, 1)], [(2, 2), (0, 0), (0, 2)]):
            self.assertIsNone(first_parted(rows))

    def test_least_second_then_least_first(self):
        self.assertEqual(first_parted([(0, 2), (1, 1)]), (0, 1))
        self.assertEqual(first_parted([(0, 2), (0, 3), (1, 1), (2, 0)]), (0, 2))
        self.assertEqual(first_parted(rows=((0, 0), (0, 2), (1, 3), (2, 1), (0, 9))), (1, 3))

    def test_drawn(self):
        draw = random.Random(3)
        for _ in range(400):
            rows = drawn_rows(draw, draw.randint(0, 6), draw.randint(1, 3), 2)
            pairs = [(j, i) for j in range(len(rows)) for i in range(j) if parted(rows[i], rows[j])]
            told = first_parted(rows)
            self.assertEqual(told, min(pairs)[::-1] if pairs else None)
            self.assertEqual(first_parted(tuple(rows)), told)


class Lines(unittest.TestCase):
    def test_lines(self):
        for value in ((), ((0,),), ((0,), (1,), (GREATEST,)), ((0, 1), (1, 1), (1, 2)), ((0,) * 6, (1,) * 6)):
            self.assertIs(is_line(value), True, value)
        for value in (*odd_values(), ((),), ((0,), (0,)), ((1,), (0,)), ((0, 1), (1, 0)), ((0,), (1, 1)), ((0,) * 7,),
                      [(0,), (1,)], ((0,), [1]), 5, (0,), ((0,), (1,), (1,)), ((0, 1), (1, 0), (1, 1))):
            self.assertIs(is_line(value), False, value)
        for value in bends(((0, 1), (1, 1), (1, 5))):
            self.assertIs(is_line(value), False, value)

    def test_drawn_lines(self):
        draw = random.Random(4)
        for _ in range(600):
            rows = tuple(drawn_rows(draw, draw.randint(0, 3), 2, 2))
            self.assertIs(is_line(rows), plain_is_line(rows))

    def test_line_of(self):
        rows = [(2, 2), (0, 1), (2, 2), (1, 1)]
        self.assertEqual(line_of(rows), ((0, 1), (1, 1), (2, 2)))
        self.assertEqual(rows, [(2, 2), (0, 1), (2, 2), (1, 1)])
        self.assertEqual(line_of([]), ())
        self.assertEqual(line_of(rows=((3,),)), ((3,),))

    def test_line_of_parted_rows(self):
        with self.assertRaises(Parted) as caught:
            line_of([(0, 0), (0, 2), (1, 3), (2, 1)])
        self.assertEqual((caught.exception.one, caught.exception.other), (1, 3))

    def test_line_of_drawn(self):
        draw = random.Random(5)
        for _ in range(300):
            rows = drawn_rows(draw, draw.randint(0, 4), 2, 3)
            ways = [way for way in permutations(sorted(set(rows))) if plain_is_line(way)]
            if ways:
                self.assertEqual([line_of(rows)], ways)
            else:
                with self.assertRaises(Parted) as caught:
                    line_of(rows)
                self.assertEqual((caught.exception.one, caught.exception.other), first_parted(rows))

    def test_fits(self):
        line = ((0, 1), (1, 1), (2, 3))
        for row, place in (((0, 0), 0), ((0, 1), 0), ((1, 1), 1), ((1, 2), 2), ((2, 2), 2), ((2, 3), 2), ((3, 3), 3),
                           ((3, 0), None), ((0, 2), None), ((5, 2), None)):
            self.assertEqual(fits(line, row), place, row)
            self.assertEqual(fits(row=row, line=line), place)
        self.assertEqual(fits((), (4, 0, 2)), 0)
        self.assertEqual(fits((), (0,)), 0)

    def test_fits_drawn(self):
        draw = random.Random(6)
        for _ in range(500):
            line = tuple(sorted(set(drawn_rows(draw, draw.randint(0, 3), 2, 3))))
            if not plain_is_line(line):
                continue
            row = drawn_rows(draw, 1, 2, 3)[0]
            places = [k for k in range(len(line) + 1) if row not in line and plain_is_line(line[:k] + (row,) + line[k:])]
            if row in line:
                places = [line.index(row)]
            self.assertEqual(fits(line, row), places[0] if places else None)

    def test_fits_errors(self):
        line = ((0, 1), (1, 1))
        check_refused(self, BadLine, fits, [line, (0, 1)], 0,
                      [*odd_values(), list(line), ((1, 1), (0, 1)), ((0, 1), (0, 1)), *bends(line)])
        check_refused(self, BadRow, fits, [line, (0, 1)], 1, [*NO_ROWS, *bends((0, 1)), (0,), (0, 1, 1)])
        check_refused(self, BadRow, fits, [(), (0, 1)], 1, [*NO_ROWS, *bends((0, 1))])
        check_sequence(self, fits, [line, (0, 1)], [(0, [], BadLine), (1, [], BadRow)])


if __name__ == "__main__":
    unittest.main()
