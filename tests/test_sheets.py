"""Points 41, 42 and 43: sheets, stocks, and closed rows."""

import random
import unittest
from itertools import product

from seenatonce.errors import BadHand, BadRow, BadStock, BadStore, BadTrust
from seenatonce.rows import joined
from seenatonce.sheets import is_closed, is_sheet, is_stock, row_of, rows_told
from tests.helpers import Book, GREATEST, below, bends, check_refused, check_sequence, drawn_stock, odd_values, parted
from tests.test_sayings import NO_STORE, NO_TRUST

STORE = (2, 4, 1)


def two_hands():
    """A book and its stock: hand 0 did a deed, hand 1 saw it and did two, hand 0 saw one of these and did one."""
    book = Book(STORE)
    first = book.sheet(0, 1, (book.look((0, 0)),))
    second = book.sheet(1, 1, (book.look((0, 0)), book.look((1, 0))), 11, GREATEST)
    third = book.sheet(1, 2, (book.look((1, 1)),), 3, 4)
    last = book.sheet(0, 2, (book.look((1, 1)),))
    return book, ((first, last), (second, third))


def looks_in(trust, name):
    return trust.content(name)[5]


def plain_is_closed(trust, stock, row):
    """By the words of [42]."""
    if not below(row, tuple(len(sheets) for sheets in stock)):
        return False
    up_to = [name for hand, sheets in enumerate(stock) for name in sheets[:row[hand]]]
    return all(below(look[0], row) for name in up_to for look in looks_in(trust, name))


def names_in(content):
    if isinstance(content, tuple):
        if len(content) == 2 and content[0] == "name":
            return [content]
        return [name for item in content for name in names_in(item)]
    return []


class Sheets(unittest.TestCase):
    def test_sheets(self):
        book, stock = two_hands()
        for hand, sheets in enumerate(stock):
            for name in sheets:
                self.assertIs(is_sheet(book.trust, STORE, hand, name), True)
                self.assertIs(is_sheet(trust=book.trust, store=STORE, hand=hand, name=name), True)
                self.assertIs(is_sheet(book.trust, STORE, 1 - hand, name), False)

    def test_unsealed_or_sealed_by_others(self):
        book = Book(STORE)
        name = book.trust.name(("sheet", 0, 1, 0, 0, (book.look((0, 0)),)))
        for who in (("hand", 1), ("house", 0), ("hand", 2)):
            self.assertIs(is_sheet(book.trust, STORE, 0, name), False)
            book.trust.seal(who, name)
            self.assertIs(is_sheet(book.trust, STORE, 0, name), False)
            self.assertIs(is_sheet(book.trust, STORE, 1, name), False)
        book.trust.seal(("hand", 0), name)
        self.assertIs(is_sheet(book.trust, STORE, 0, name), True)
        self.assertIs(is_sheet(book.trust, STORE, 1, name), False)

    def test_what_is_no_sheet(self):
        book = Book(STORE)
        zero, one, ahead = book.look((0, 0)), book.look((0, 1)), book.look((1, 0))
        row, kept, had = zero
        contents = ["sheet", None, (), zero, ("sheet", 0, 1, 0, 0), ("sheet", 0, 1, 0, 0, (zero,), ()),
                    ("sheets", 0, 1, 0, 0, (zero,)), (None, 0, 1, 0, 0, (zero,)), ("saying", 0, 1, (1, 0), (), ()),
                    ("sheet", 2, 1, 0, 0, (zero,)), ("sheet", "0", 1, 0, 0, (zero,)), ("sheet", None, 1, 0, 0, (zero,)),
                    ("sheet", 0, 0, 0, 0, (zero,)), ("sheet", 0, 2, 0, 0, (zero,)), ("sheet", 0, "1", 0, 0, (zero,)),
                    ("sheet", 0, -1, 0, 0, (zero,)), ("sheet", 0, 1, -1, 0, (zero,)), ("sheet", 0, 1, 12, 0, (zero,)),
                    ("sheet", 0, 1, None, 0, (zero,)), ("sheet", 0, 1, 0, -1, (zero,)), ("sheet", 0, 1, 0, None, (zero,)),
                    ("sheet", 0, 1, 0, "0", (zero,)), ("sheet", 0, 1, 0, 0, ()), ("sheet", 0, 1, 0, 0, zero),
                    ("sheet", 0, 1, 0, 0, None), ("sheet", 0, 1, 0, 0, (None,)), ("sheet", 0, 1, 0, 0, (zero[:2],)),
                    ("sheet", 0, 1, 0, 0, (zero, zero)), ("sheet", 0, 1, 0, 0, (one, zero)), ("sheet", 0, 1, 0, 0, (ahead,)),
                    ("sheet", 0, 1, 0, 0, (zero, ahead)), ("sheet", 0, 1, 0, 0, ((row, row, kept, had),)),
                    ("sheet", 0, 1, 0, 0, ((row, had, kept),)), ("sheet", 0, 1, 0, 0, (((0, 1), kept, had),)),
                    ("sheet", 0, 2, 0, 0, (zero, ahead)), ("sheet", 1, 1, 0, 0, (ahead, one)),
                    ("sheet", 0, 1, 0, 0, 5), ("sheet", 0, 1, 0, 0, "looks"), ("sheet", 0, 1, 0, 0, (zero, ((0, 1), kept, had))),
                    ("sheet", 0, 1, 0, 0, (((0, 0), kept[:2], had), one))]
        for content in contents:
            name = book.trust.name(content)
            for hand in range(3):
                book.trust.seal(("hand", hand), name)
            for hand in (0, 1):
                self.assertIs(is_sheet(book.trust, STORE, hand, name), False, content)
        for hand, content in ((0, ("sheet", 0, 1, 11, GREATEST, (zero, one))), (0, ("sheet", 0, 2, 0, 0, (ahead,))),
                              (1, ("sheet", 1, 1, 0, 0, (zero, ahead)))):
            self.assertIs(is_sheet(book.trust, STORE, hand, book.seal(("hand", hand), content)), True)

    def test_rows_of_looks_rise(self):
        # Of three hands, rows that are parted, though ascending in Python's order.
        book = Book((3, 1, 0))
        for rows, told in ((((0, 0, 0), (0, 0, 1), (0, 2, 1)), True), (((0, 0, 1), (0, 1, 0)), False),
                           (((0, 0, 0), (0, 0, 2), (0, 1, 1)), False), (((0, 1, 1), (0, 1, 1)), False)):
            name = book.sheet(0, 1, tuple(book.look(row) for row in rows))
            self.assertIs(is_sheet(book.trust, (3, 1, 0), 0, name), told)

    def test_other_values_and_errors(self):
        book, stock = two_hands()
        name = stock[0][0]
        args = [book.trust, STORE, 0, name]
        for value in (*odd_values(), *bends(name), (), ("name", 10 ** 6), book.trust.content(name), 5):
            self.assertIs(is_sheet(*args[:3], value), False, value)
        check_refused(self, BadTrust, is_sheet, args, 0, NO_TRUST)
        check_refused(self, BadStore, is_sheet, args, 1, NO_STORE)
        check_refused(self, BadHand, is_sheet, args, 2, [None, True, False, -1, 2, 10 ** 18, "0", (0,), [0], {}])
        check_sequence(self, is_sheet, args, [(0, None, BadTrust), (1, None, BadStore), (2, True, BadHand)])


class Stocks(unittest.TestCase):
    def test_stocks(self):
        book, (zero, one) = two_hands()
        for k, j in product(range(3), repeat=2):
            self.assertIs(is_stock(book.trust, STORE, (zero[:k], one[:j])), True)
            self.assertIs(is_stock(trust=book.trust, store=STORE, value=(zero[:k], one[:j])), True)
        other = book.sheet(0, 1, (book.look((0, 0)),), 1)
        self.assertIs(is_stock(book.trust, STORE, ((other, zero[1]), one)), True)
        unsealed = book.trust.name(("sheet", 0, 1, 2, 2, (book.look((0, 0)),)))
        for value in (*odd_values(), (), ((),), ((), (), ()), (one, zero), (zero[1:], one), (zero[::-1], one), (zero[:1] * 2, one),
                      [(), ()], ([], ()), ((), []), (zero, list(one)), ((unsealed,), ()), (zero + (other,), one),
                      (zero, None), (None, one), ((zero,), one), *bends((zero[:1], one)), zero, 5, ((), 0)):
            self.assertIs(is_stock(book.trust, STORE, value), False, value)

    def test_the_store_tells_how_many_hands(self):
        book = Book((3, 1, 0))
        for hands in range(1, 7):
            self.assertIs(is_stock(book.trust, (hands, 1, 0), ((),) * 3), hands == 3)

    def test_row_of(self):
        _, stock = two_hands()
        self.assertEqual(row_of(stock), (2, 2))
        self.assertEqual(row_of(stock=((), ())), (0, 0))
        self.assertEqual(row_of(((1, 2, None), (), ("x",))), (3, 0, 1))
        self.assertEqual(row_of(()), ())

    def test_rows_told(self):
        book, stock = two_hands()
        self.assertEqual(rows_told(book.trust, STORE, stock), [(0, 0), (1, 0), (1, 1)])
        self.assertEqual(rows_told(trust=book.trust, store=STORE, stock=(stock[0][:1], ())), [(0, 0)])
        self.assertEqual(rows_told(book.trust, STORE, ((), ())), [])
        self.assertIsNot(rows_told(book.trust, STORE, stock), rows_told(book.trust, STORE, stock))

    def test_is_closed_by_hand(self):
        book, stock = two_hands()
        closed = {(0, 0), (1, 0), (1, 1), (1, 2), (2, 1), (2, 2)}
        for row in product(range(4), repeat=2):
            self.assertIs(is_closed(book.trust, STORE, stock, row), row in closed, row)
            self.assertIs(is_closed(trust=book.trust, store=STORE, stock=stock, row=row), row in closed)
            self.assertIs(is_closed(book.trust, STORE, ((), ()), row), row == (0, 0))

    def test_drawn(self):
        draw = random.Random(65)
        seen = {True: 0, False: 0}
        for store in ((2, 4, 1), (3, 1, 0)) * 15:
            book, stock = drawn_stock(draw, store, 5, draw.random() < 0.4)
            self.assertIs(is_stock(book.trust, store, stock), True)
            top = row_of(stock)
            told = sorted({look[0] for sheets in stock for name in sheets for look in looks_in(book.trust, name)})
            self.assertEqual(rows_told(book.trust, store, stock), told)
            closed = []
            for row in product(*(range(item + 2) for item in top)):
                right = plain_is_closed(book.trust, stock, row)
                self.assertIs(is_closed(book.trust, store, stock, row), right)
                seen[right] += 1
                closed += [row] if right else []
            self.assertIn((0,) * store[0], closed)
            for one, other in product(closed, repeat=2):
                self.assertIn(joined([one, other]), closed)
            if not any(parted(one, other) for one, other in product(told, repeat=2)):
                self.assertTrue(all(row in closed for row in told if below(row, top)))
        self.assertGreater(min(seen.values()), 50)

    def test_the_row_of_a_look_lacks_its_sheet(self):
        draw = random.Random(66)
        for _ in range(20):
            book, stock = drawn_stock(draw, (3, 1, 0), 6, False)
            for hand, sheets in enumerate(stock):
                for k, name in enumerate(sheets):
                    self.assertTrue(all(look[0][hand] == k for look in looks_in(book.trust, name)))

    def test_all_that_a_sheet_tells_of_is_older(self):
        draw = random.Random(67)
        for _ in range(10):
            book, stock = drawn_stock(draw, STORE, 6, True)
            for name in (name for sheets in stock for name in sheets):
                inner = names_in(book.trust.content(name))
                self.assertTrue(inner and all(one < name for one in inner))

    def test_stocks_of_one_hand_have_the_same_sheets(self):
        # Each number is sealed once: so of all tuples of sheets just the beginnings of one make a stock.
        book = Book((1, 1, 0))
        sheets = tuple(book.sheet(0, k + 1, (book.look((k,)),)) for k in range(3))
        stocks = [lot for many in range(4) for lot in product(sheets, repeat=many)
                  if is_stock(book.trust, (1, 1, 0), (lot,))]
        self.assertEqual(stocks, [sheets[:many] for many in range(4)])

    def test_errors(self):
        book, stock = two_hands()
        wrong = [*odd_values(), (), ((),), [(), ()], ((), []), stock[::-1], *bends(stock)]
        calls = ((rows_told, [book.trust, STORE, stock]), (is_closed, [book.trust, STORE, stock, (0, 0)]))
        for call, args in calls:
            check_refused(self, BadTrust, call, args, 0, NO_TRUST)
            check_refused(self, BadStore, call, args, 1, NO_STORE)
            check_refused(self, BadStock, call, args, 2, wrong)
            check_sequence(self, call, args, [(0, None, BadTrust), (1, None, BadStore), (2, None, BadStock)])
        args = calls[1][1]
        check_refused(self, BadRow, is_closed, args, 3, [*odd_values(), (), (0,), (0, 0, 0), (0, -1), (True, 0), [0, 0], 0,
                                                         *bends((1, 0))])
        check_sequence(self, is_closed, args, [(2, None, BadStock), (3, None, BadRow)])
        for call in (is_stock,):
            check_refused(self, BadTrust, call, [book.trust, STORE, stock], 0, NO_TRUST)
            check_refused(self, BadStore, call, [book.trust, STORE, stock], 1, NO_STORE)


if __name__ == "__main__":
    unittest.main()
