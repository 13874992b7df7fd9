"""Points 3, 4 and 5: what a number and a store are, and need_of."""

import unittest

from seenatonce.checks import ascends, is_number, is_store, need_of
from seenatonce.errors import BadStore
from tests.helpers import GREATEST, bends, check_refused, odd_values


class Numbers(unittest.TestCase):
    def test_numbers_have_at_most_18_digits(self):
        for value in (0, 1, -1, 5, GREATEST, -GREATEST):
            self.assertIs(is_number(value), True)
        for value in (GREATEST + 1, -GREATEST - 1, 10 ** 40):
            self.assertIs(is_number(value), False)

    def test_no_bool_and_nothing_else_is_a_number(self):
        for value in (True, False, None, "1", (1,), [1], {}):
            self.assertIs(is_number(value), False)

    def test_ascending_values_are_unlike(self):
        for values, told in (((), True), ((1,), True), ((1, 2, 5), True), ((1, 1), False), ((1, 3, 2), False)):
            self.assertIs(ascends(values), told)


class Stores(unittest.TestCase):
    def test_stores_within_their_bounds(self):
        for hands in range(-1, 9):
            for houses in range(-1, 16):
                for lies in range(-1, 6):
                    right = 1 <= hands <= 6 and 0 <= lies and 3 * lies + 1 <= houses <= 13
                    self.assertIs(is_store((hands, houses, lies)), right, (hands, houses, lies))

    def test_other_values_are_no_stores(self):
        for value in (*odd_values(), (), (2, 4), (2, 4, 1, 0), 5, "241", (GREATEST, GREATEST, 0), (1, 10 ** 18, 0)):
            self.assertIs(is_store(value), False, value)

    def test_bent_stores(self):
        for store in ((2, 4, 1), (1, 1, 0), (6, 13, 4)):
            for value in bends(store):
                self.assertIs(is_store(value), False, value)
                with self.assertRaises(BadStore):
                    need_of(value)

    def test_need_is_houses_less_lies(self):
        for store, need in (((1, 1, 0), 1), ((2, 4, 1), 3), ((6, 13, 4), 9), ((3, 13, 0), 13), ((1, 9, 2), 7)):
            self.assertEqual(need_of(store), need)
            self.assertEqual(need_of(store=store), need)

    def test_need_of_no_store(self):
        check_refused(self, BadStore, need_of, [(2, 4, 1)], 0, [*odd_values(), (2, 3, 1), (0, 4, 1), (7, 4, 1), (2, 14, 1)])

    def test_two_lots_of_need_houses_have_more_than_the_lies_in_common(self):
        for houses in range(1, 14):
            for lies in range((houses - 1) // 3 + 1):
                need = need_of((1, houses, lies))
                self.assertGreaterEqual(2 * need - houses, houses - 2 * lies)
                self.assertGreaterEqual(houses - 2 * lies, lies + 1)


if __name__ == "__main__":
    unittest.main()
