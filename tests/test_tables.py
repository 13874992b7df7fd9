"""Points 10, 11 and 14: tables, what their deeds do, and tables made of tables."""

import random
import unittest
from itertools import product as products

from seenatonce.errors import BadDeed, BadDeeds, BadSize, BadState, BadTable, TooLarge
from seenatonce.settling import settles_at
from seenatonce.tables import (apart, beside, cells_table, commute, counting_table, done, greatest_table,
                               growing_table, is_served, is_table, merged, overwrites, product, with_look)
from tests.helpers import (GREATEST, bends, check_refused, check_sequence, drawn_table, drawn_tables, odd_values)

# Two numbers that are swapped, put in with the answer of what was there, and a look.
BY_HAND = (((0, 0), (0, 1)), ((1, 0), (1, 1)), ((0, 0), (1, 1)))
ONE = (((0, 0),),)
LARGE = drawn_table(random.Random(20), 30, 12, 3)
NO_TABLE = [*odd_values(), (), ((),), (((),),), (((0,),),), (((0, 0, 0),),), (((1, 0),),), (((0, 0),), ((0, 0), (0, 0))),
            (((0, 0),), ()), ONE * 13, (((0, 0),) * 31,), [((0, 0),)], ([(0, 0)],), (([0, 0],),), (((0, -1),),),
            (((-1, 0),),), (((0, 10 ** 18),),), (((False, 0),),), (((0, True),),), 5, ((0, 0),)]
NO_PLACE = [None, True, False, -1, 2, 3, 10 ** 18, "0", (0,), [0], {}, ()]


def plain_done(table, state, deeds):
    answers = []
    for deed in deeds:
        state, answer = table[deed][state]
        answers.append(answer)
    return state, answers


def plain_apart(table, here, there):
    """By the words: all lists of deeds, shorter ones first, of equal length the lesser ones first."""
    for many in range(1, len(table[0]) + 1):
        for deeds in products(range(len(table)), repeat=many):
            if plain_done(table, here, deeds)[1][-1] != plain_done(table, there, deeds)[1][-1]:
                return list(deeds)
    return None


def plain_commute(table, one, other):
    for state in range(len(table[0])):
        first, (one_alone, other_late) = plain_done(table, state, [one, other])
        second, (other_alone, one_late) = plain_done(table, state, [other, one])
        if first != second or one_alone != one_late or other_alone != other_late:
            return False
    return True


def plain_overwrites(table, one, other):
    for state in range(len(table[0])):
        alone, (answer,) = plain_done(table, state, [one])
        behind, (_, late) = plain_done(table, state, [other, one])
        if alone != behind or answer != late:
            return False
    return True


def plain_is_served(table):
    deeds = range(len(table))
    return all(plain_commute(table, one, other) or plain_overwrites(table, one, other)
               or plain_overwrites(table, other, one) for one in deeds for other in deeds)


class Tables(unittest.TestCase):
    def test_is_table(self):
        for value in (ONE, BY_HAND, LARGE, (((0, GREATEST),),), ONE * 12, (((0, 0),) * 30,)):
            self.assertIs(is_table(value), True)
        for value in NO_TABLE:
            self.assertIs(is_table(value), False, value)
        for value in bends(BY_HAND):
            self.assertIs(is_table(value), False, value)

    def test_no_table_is_refused(self):
        calls = ((done, [BY_HAND, 0, []]), (apart, [BY_HAND, 0, 0]), (merged, [BY_HAND]), (commute, [BY_HAND, 0, 0]),
                 (overwrites, [BY_HAND, 0, 0]), (is_served, [BY_HAND]), (with_look, [BY_HAND]),
                 (product, [BY_HAND, ONE]), (beside, [BY_HAND, BY_HAND]))
        for call, args in calls:
            check_refused(self, BadTable, call, args, 0, NO_TABLE)
        for call in (product, beside):
            check_refused(self, BadTable, call, [BY_HAND, BY_HAND], 1, NO_TABLE)

    def test_done(self):
        self.assertEqual(done(BY_HAND, 0, [1, 0, 2]), (0, [0, 1, 0]))
        self.assertEqual(done(table=BY_HAND, state=1, deeds=(2, 0, 2)), (0, [1, 1, 0]))
        self.assertEqual(done(BY_HAND, 1, []), (1, []))
        self.assertEqual(done(ONE, 0, [0] * 3), (0, [0, 0, 0]))
        deeds = [0, 1]
        self.assertEqual(done(BY_HAND, 0, deeds), done(BY_HAND, 0, deeds))
        self.assertIsNot(done(BY_HAND, 0, deeds)[1], done(BY_HAND, 0, deeds)[1])
        self.assertEqual(deeds, [0, 1])

    def test_done_drawn(self):
        draw = random.Random(21)
        for table in [*drawn_tables(22, 40), LARGE]:
            deeds = [draw.randrange(len(table)) for _ in range(draw.randint(0, 9))]
            state = draw.randrange(len(table[0]))
            self.assertEqual(done(table, state, deeds), plain_done(table, state, deeds))

    def test_done_errors(self):
        check_refused(self, BadState, done, [BY_HAND, 0, [0]], 1, NO_PLACE)
        check_refused(self, BadDeeds, done, [BY_HAND, 0, [0]], 2,
                      [None, True, 0, "00", {}, {0: 0}, [True], [3], [-1], [0, 1, None], ((0,),), [[0]], ["0"], [10 ** 18]])
        check_sequence(self, done, [BY_HAND, 0, [0]],
                       [(0, (), BadTable), (1, True, BadState), (2, [9], BadDeeds)])

    def test_apart(self):
        self.assertEqual(apart(BY_HAND, 0, 1), [0])
        self.assertIsNone(apart(table=BY_HAND, here=1, there=1))
        self.assertEqual(apart((((1, 0), (2, 0), (2, 1)),), 0, 1), [0, 0])
        self.assertIsNone(apart((((1, 0), (0, 0)),), 0, 1))
        # Both deeds first lead on in silence: the least of the shortest lists begins with the least deed.
        table = (((0, 0), (2, 0), (2, 0)), ((1, 0), (1, 0), (2, 1)))
        self.assertEqual(apart(table, 0, 1), [0, 1])
        check_refused(self, BadState, apart, [BY_HAND, 0, 0], 1, NO_PLACE)
        check_refused(self, BadState, apart, [BY_HAND, 0, 0], 2, NO_PLACE)
        check_sequence(self, apart, [BY_HAND, 0, 0], [(0, None, BadTable), (1, 2, BadState)])

    def test_apart_drawn(self):
        lengths = set()
        for table in drawn_tables(23, 150):
            for here in range(len(table[0])):
                for there in range(len(table[0])):
                    told = apart(table, here, there)
                    self.assertEqual(told, plain_apart(table, here, there), (table, here, there))
                    lengths.add(len(told or []))
        self.assertEqual(lengths, {0, 1, 2, 3})

    def test_apart_at_the_limits(self):
        ring = tuple((min(k + 1, 29), 0 if k < 29 else 1) for k in range(30))
        self.assertEqual(apart((ring,) * 12, 0, 1), [0] * 29)
        self.assertIsNone(apart((ring,) * 12, 4, 4))
        self.assertEqual(plain_done(LARGE, 3, [])[0], 3)
        for here in range(30):
            told = apart(LARGE, here, 7)
            if told is not None:
                self.assertNotEqual(done(LARGE, here, told)[1][-1], done(LARGE, 7, told)[1][-1])

    def test_merged(self):
        self.assertEqual(merged((((1, 0), (2, 1), (3, 0), (0, 1)),)), ((((1, 0), (0, 1)),), (0, 1, 0, 1)))
        self.assertEqual(merged(table=BY_HAND), (BY_HAND, (0, 1)))
        self.assertEqual(merged(ONE), (ONE, (0,)))
        self.assertEqual(merged((((0, 7),) * 30,)), ((((0, 7),),), (0,) * 30))
        # The states 1 and 2 exchanged: numbers are given in the sequence of the states, not of the answers.
        self.assertEqual(merged((((2, 5), (2, 5), (0, 3)),)), ((((1, 5), (0, 3)),), (0, 0, 1)))

    def test_merged_drawn(self):
        draw = random.Random(24)
        smaller = 0
        for table in drawn_tables(25, 150, 5, 2, 2):
            small, classes = merged(table)
            states = range(len(table[0]))
            self.assertIs(is_table(small), True)
            alike = [[plain_apart(table, one, other) is None for other in states] for one in states]
            for one in states:
                self.assertEqual(classes[one], len(set(classes[:alike[one].index(True)]))
                                 if alike[one].index(True) == one else classes[alike[one].index(True)])
                for other in states:
                    self.assertIs(classes[one] == classes[other], alike[one][other])
                for deed, row in enumerate(table):
                    self.assertEqual(small[deed][classes[one]], (classes[row[one][0]], row[one][1]))
                deeds = [draw.randrange(len(table)) for _ in range(6)]
                self.assertEqual(done(table, one, deeds)[1], done(small, classes[one], deeds)[1])
            self.assertEqual(merged(small), (small, tuple(range(len(small[0])))))
            smaller += len(small[0]) < len(table[0])
        self.assertGreater(smaller, 30)

    def test_merged_at_the_limits(self):
        ring = tuple(((k + 1) % 30, 1 if k % 10 == 0 else 0) for k in range(30))
        small, classes = merged((ring,) * 12)
        self.assertEqual(classes, tuple(k % 10 for k in range(30)))
        self.assertEqual(small, (tuple(((k + 1) % 10, 1 if k == 0 else 0) for k in range(10)),) * 12)


class TwoDeeds(unittest.TestCase):
    def test_by_hand(self):
        self.assertIs(overwrites(BY_HAND, 0, 2), True)
        self.assertIs(overwrites(BY_HAND, 0, 1), False)
        self.assertIs(commute(BY_HAND, 2, 2), True)
        self.assertIs(commute(table=BY_HAND, one=0, other=1), False)
        self.assertIs(overwrites(table=BY_HAND, one=2, other=0), False)
        self.assertIs(is_served(BY_HAND), False)
        self.assertIs(is_served(table=ONE), True)

    def test_a_deed_beside_itself(self):
        # To put 1 in and to be told what was there: it leads to 1 from all states, but answers unlike behind itself.
        table = (((1, 0), (1, 1)),)
        self.assertIs(commute(table, 0, 0), False)
        self.assertIs(overwrites(table, 0, 0), False)
        self.assertIs(is_served(table), False)

    def test_drawn(self):
        seen = set()
        for table in [*drawn_tables(26, 300, 3, 3, 2), *drawn_tables(27, 300, 3, 2, 1), BY_HAND, LARGE]:
            for one in range(len(table)):
                for other in range(len(table)):
                    told = (commute(table, one, other), overwrites(table, one, other))
                    self.assertEqual(told, (plain_commute(table, one, other), plain_overwrites(table, one, other)))
                    seen.add(told)
            self.assertIs(is_served(table), plain_is_served(table))
        self.assertEqual(len(seen), 4)

    def test_facts(self):
        for table in drawn_tables(28, 400, 3, 3, 1):
            deeds = range(len(table))
            over = {(a, b) for a in deeds for b in deeds if overwrites(table, a, b)}
            for a, b in over:
                for c in deeds:
                    self.assertTrue((b, c) not in over or (a, c) in over)
            for b in deeds:
                if all(behind == state for state, (behind, _) in enumerate(table[b])):
                    self.assertTrue(all((a, b) in over for a in deeds))

    def test_errors(self):
        for call in (commute, overwrites):
            check_refused(self, BadDeed, call, [BY_HAND, 0, 0], 1, [None, True, -1, 3, 10 ** 18, "0", (0,), []])
            check_refused(self, BadDeed, call, [BY_HAND, 0, 0], 2, [None, False, -1, 3, 10 ** 18, "0", (0,), []])
            check_sequence(self, call, [BY_HAND, 0, 0], [(0, 0, BadTable), (1, 3, BadDeed), (2, 3, BadDeed)])


class MadeTables(unittest.TestCase):
    def check_large(self, states, deeds, call, *args):
        with self.assertRaises(TooLarge) as caught:
            call(*args)
        self.assertEqual((caught.exception.states, caught.exception.deeds), (states, deeds))

    def test_with_look(self):
        self.assertEqual(with_look(BY_HAND[:1]), (((0, 0), (0, 1)), ((0, 0), (1, 1))))
        self.assertEqual(with_look(table=ONE), (((0, 0),), ((0, 0),)))
        self.assertEqual(len(with_look(LARGE[:11])), 12)
        self.check_large(30, 13, with_look, LARGE)
        for table in drawn_tables(29, 200):
            self.assertIs(is_served(with_look(table)), is_served(table))

    def test_product(self):
        left = (((1, 5), (0, 6)),)
        right = (((2, 0), (2, 1), (0, 2)), ((0, 7), (1, 8), (2, 9)))
        self.assertEqual(product(left, right), (
            ((3, 5), (4, 5), (5, 5), (0, 6), (1, 6), (2, 6)),
            ((2, 0), (2, 1), (0, 2), (5, 0), (5, 1), (3, 2)),
            ((0, 7), (1, 8), (2, 9), (3, 7), (4, 8), (5, 9))))
        self.assertEqual(product(left=ONE, right=left), (((0, 0), (1, 0)), ((1, 5), (0, 6))))

    def test_product_is_two_objects(self):
        draw = random.Random(30)
        tables = drawn_tables(31, 60)
        for left, right in zip(tables, tables[1:]):
            table, m = product(left, right), len(right[0])
            self.assertIs(is_table(table), True)
            self.assertIs(is_served(table), is_served(left) and is_served(right))
            here, there = draw.randrange(len(left[0])), draw.randrange(m)
            state = here * m + there
            for deed in [draw.randrange(len(table)) for _ in range(5)]:
                if deed < len(left):
                    here, answer = left[deed][here]
                else:
                    there, answer = right[deed - len(left)][there]
                self.assertEqual(done(table, state, [deed]), (here * m + there, [answer]))
                state = here * m + there

    def test_product_at_the_limits(self):
        self.assertEqual(len(product(ONE * 6, ONE * 6)), 12)
        self.check_large(1, 13, product, ONE * 6, ONE * 7)
        self.assertEqual(len(product(counting_table(5), counting_table(6))[0]), 30)
        self.check_large(36, 6, product, counting_table(6), counting_table(6))
        self.check_large(900, 24, product, LARGE, LARGE)
        check_sequence(self, product, [LARGE, LARGE], [(0, 1, BadTable), (1, 1, BadTable)])

    def test_beside(self):
        self.assertEqual(beside(BY_HAND[:2], ONE * 2), (((0, 0), (0, 1), (2, 0)), ((1, 0), (1, 1), (2, 0))))
        self.assertEqual(beside(left=ONE, right=BY_HAND[1:2]), (((0, 0), (2, 0), (2, 1)),))
        check_refused(self, BadDeeds, beside, [BY_HAND, BY_HAND], 1, [ONE, ONE * 2, ONE * 4, LARGE])
        check_sequence(self, beside, [BY_HAND, BY_HAND], [(0, None, BadTable), (1, None, BadTable)])

    def test_beside_at_the_limits(self):
        self.check_large(31, 12, beside, LARGE, ONE * 12)
        self.check_large(31, 12, beside, ONE * 12, LARGE)
        self.assertEqual(len(beside(counting_table(29), ONE * 3)[0]), 30)
        check_refused(self, BadDeeds, beside, [LARGE, LARGE[:3]], 1, [ONE])

    def test_beside_settles_where_its_parts_do(self):
        draw = random.Random(32)
        settled = 0
        for _ in range(60):
            deeds = draw.randint(1, 3)
            left, right = (drawn_table(draw, draw.randint(1, 3), deeds, 2) for _ in range(2))
            table, many = beside(left, right), len(left[0])
            self.assertIs(is_table(table), True)
            for state in range(len(table[0])):
                part, place = (left, state) if state < many else (right, state - many)
                for one, other in products(range(deeds), repeat=2):
                    told = settles_at(part, place, one, other)
                    self.assertIs(settles_at(table, state, one, other), told)
                    settled += told
        self.assertGreater(settled, 20)

    def test_counting_table(self):
        self.assertEqual(counting_table(3), (((1, 0), (2, 0), (0, 0)), ((0, 0),) * 3, ((0, 0), (1, 1), (2, 2))))
        self.assertEqual(counting_table(size=1), (((0, 0),),) * 3)
        self.assertEqual(len(counting_table(30)[0]), 30)

    def test_greatest_table(self):
        self.assertEqual(greatest_table(2), (((0, 0), (1, 0)), ((1, 0), (1, 0)), ((0, 0), (1, 1))))
        self.assertEqual(greatest_table(size=1), (((0, 0),),) * 2)
        table = greatest_table(11)
        self.assertEqual((len(table), len(table[0])), (12, 11))
        for deed, state in products(range(11), repeat=2):
            self.assertEqual(table[deed][state], (max(deed, state), 0))

    def test_growing_table(self):
        self.assertEqual(growing_table(0), (((0, 0),),))
        self.assertEqual(growing_table(many=1), (((1, 0), (1, 0)), ((0, 0), (1, 1))))
        self.assertEqual(growing_table(2), (((1, 0), (1, 0), (3, 0), (3, 0)), ((2, 0), (3, 0), (2, 0), (3, 0)),
                                            ((0, 0), (1, 1), (2, 2), (3, 3))))
        self.assertEqual((len(growing_table(4)), len(growing_table(4)[0])), (5, 16))

    def test_cells_table(self):
        self.assertEqual(cells_table(1, 1), (((0, 0),),) * 2)
        self.assertEqual(cells_table(2, 2), (((0, 0), (0, 0), (2, 0), (2, 0)), ((1, 0), (1, 0), (3, 0), (3, 0)),
                                             ((0, 0), (1, 0), (0, 0), (1, 0)), ((2, 0), (3, 0), (2, 0), (3, 0)),
                                             ((0, 0), (1, 1), (2, 2), (3, 3))))
        self.assertEqual(len(cells_table(many=3, values=3)[0]), 27)
        self.assertEqual(len(cells_table(1, 11)), 12)
        self.assertEqual(len(cells_table(11, 1)), 12)
        for many, values in ((3, 2), (3, 3), (1, 4)):
            table = cells_table(many, values)
            for cells in products(range(values), repeat=many):
                state = sum(values ** k * number for k, number in enumerate(cells))
                self.assertEqual(table[-1][state], (state, state))
                for k, v in products(range(many), range(values)):
                    behind = sum(values ** j * (v if j == k else number) for j, number in enumerate(cells))
                    self.assertEqual(table[k * values + v][state], (behind, 0))

    def test_these_are_served(self):
        tables = [counting_table(size) for size in range(1, 31)] + [greatest_table(size) for size in range(1, 12)]
        tables += [growing_table(many) for many in range(5)]
        tables += [cells_table(many, values) for many in range(1, 12) for values in range(1, 12)
                   if values ** many <= 30 and many * values <= 11]
        for table in tables:
            self.assertIs(is_table(table), True)
            self.assertIs(is_served(table), True)

    def test_sizes(self):
        odd = [None, True, False, -1, 10 ** 18, 10 ** 30, "1", (1,), [1], {}, ()]
        check_refused(self, BadSize, counting_table, [3], 0, [*odd, 0, 31])
        check_refused(self, BadSize, greatest_table, [3], 0, [*odd, 0, 12])
        check_refused(self, BadSize, growing_table, [3], 0, [*odd, 5])
        check_refused(self, BadSize, cells_table, [1, 3], 0, [*odd, 0, 4, 12, GREATEST])
        check_refused(self, BadSize, cells_table, [1, 3], 1, [*odd, 0, 12, GREATEST])
        for many in range(1, 13):
            for values in range(1, 13):
                if values ** many > 30 or many * values > 11:
                    check_refused(self, BadSize, cells_table, [many, values], 0, [many])


if __name__ == "__main__":
    unittest.main()
