"""Point 70: lots of deeds, what they see, and their order of looks; with points 41 and 42."""

import random
import unittest
from itertools import product

from seenatonce.errors import BadLot, BadPair, BadRow, BadStock, BadStore, BadTable, BadTrust
from seenatonce.lots import is_lot, looks_order, lot_of, sees, within
from seenatonce.tables import counting_table
from tests.helpers import (Book, GREATEST, below, bends, check_refused, check_sequence, drawn_stock, odd_values, parted)
from tests.lots_helpers import closed_rows, cut, deeds_in, drawn_lot, drawn_served_table, order_by_words, sees_by_words
from tests.test_sayings import NO_STORE, NO_TRUST
from tests.test_sheets import plain_is_closed, two_hands

TABLE = counting_table(3)
NO_TABLE = [*odd_values(), (), ((),), [((0, 0),)], (((0, 0),), ((0, 0), (0, 0))), (((1, 0),),), (((0, True),),), 5]
# Hand 0 did a deed, hand 1 saw it and did two, hand 0 saw one of these and did one.
LOT = (((0, 0, (0, 0)), (2, 5, (1, 1))), ((1, 0, (1, 0)), (0, GREATEST, (1, 1))))
NO_LOT = [*odd_values(), (), ((),) * 7, [(), ()], ([], ()), ((), []), ((), None), (((0, 0, (0,)), (0, 0, (0,))),),
          ((((0, 0, (1,))),),), (((0, 0, (1,)),),), (((0, 0, (0,)),), ((0, 0, (0,)),)), (((0, 0, (0, 1)),), ()),
          (((0, 0, (0, 1)),), ((0, 0, (1, 0)),)), (((12, 0, (0,)),),), (((0, 0, (0,), 0),),), (((0, 0),),), (LOT[0], ()), 5]


def sees_all(many):
    """A lot of one hand whose deeds each see all ahead."""
    return (tuple((0, 0, (k,)) for k in range(many)),)


def lots(seed, many, most_hands=4, tries=9):
    draw = random.Random(seed)
    for _ in range(many):
        table = drawn_served_table(draw)
        yield table, drawn_lot(draw, table, draw.randint(1, most_hands), draw.randint(0, tries))


class Lots(unittest.TestCase):
    def check(self, value, told, table=TABLE):
        self.assertIs(is_lot(table, value), told, value)

    def test_lots(self):
        for lot in (LOT, ((),), ((), ()), ((),) * 6, (((0, 0, (0,)),),), (LOT[0][:1], LOT[1]), (LOT[0][:1], LOT[1][:1]),
                    (((0, 0, (0, 0)),), ((0, 0, (0, 0)),)), (((0, 0, (0, 0)),), ((0, 0, (1, 0)),))):
            self.check(lot, True)
            self.assertIs(is_lot(table=TABLE, value=lot), True)

    def test_other_values(self):
        for value in (*NO_LOT, *bends(LOT)):
            self.check(value, False)

    def test_deeds_and_answers(self):
        for deed, told in ((0, True), (2, True), (3, False), (-1, False), (True, False), (None, False), ("0", False)):
            self.check((((deed, 0, (0,)),),), told)
        for answer, told in ((0, True), (GREATEST, True), (GREATEST + 1, False), (-1, False), (False, False), (None, False)):
            self.check((((0, answer, (0,)),),), told)

    def test_a_row_has_one_less_of_its_own_hand(self):
        for row in product(range(3), repeat=2):
            self.check((LOT[0], (LOT[1][0], (0, 0, row))), row in ((1, 1), (2, 1)))
            self.check((((0, 0, (0, 0)),), ((0, 0, row),)), row in ((0, 0), (1, 0)))

    def test_sixty_deeds_and_sixty_one(self):
        for many in (59, 60, 61):
            self.check(sees_all(many), many <= 60)
        # In six hands, one behind another, each seeing all ahead.
        lot = [()] * 6
        for k in range(61):
            row = tuple(len(items) for items in lot)
            self.check(tuple(lot), True)
            lot[k * 5 % 6] += ((k % 3, k, row),)
        self.check(tuple(lot), False)

    def test_the_row_of_the_lot_is_above_all(self):
        # What the look of a deed has, and the lot lacks.
        self.check((((0, 0, (0, 1)),), ((0, 0, (0, 0)),)), True)
        self.check((((0, 0, (0, 1)),), ()), False)
        self.check((((0, 0, (0, 2)),), ((0, 0, (0, 0)),)), False)
        self.check(((LOT[0][0],), LOT[1][:1]), True)
        self.check((LOT[0], LOT[1][:0]), False)

    def test_rows_lie_on_one_line(self):
        one, two = (0, 0, (0, 0, 0)), (1, 0, (1, 0, 0))
        for row, other, told in (((0, 0, 0), (1, 1, 0), True), ((1, 0, 0), (1, 1, 0), True), ((1, 1, 0), (1, 0, 0), True),
                                 ((1, 1, 0), (1, 0, 1), False), ((0, 1, 0), (1, 0, 0), False), ((2, 1, 0), (1, 1, 0), True)):
            # Hand 0 did two deeds, the last one with the other row; hand 1 did one; hand 2 one with the row.
            lot = ((one, (0, 0, other)), ((0, 0, (0, 0, 0)),), ((0, 0, row),))
            self.check(lot, told)
        self.check(((one, two), ((0, 0, (0, 0, 0)),), ((0, 0, (0, 1, 0)),)), False)

    def test_drawn(self):
        draw = random.Random(700)
        seen = {True: 0, False: 0}
        for table, lot in lots(701, 300):
            self.check(lot, True, table)
            hands, deeds = len(lot), deeds_in(lot)
            if deeds:
                hand, number = draw.choice(deeds)
                row = tuple(draw.randint(0, len(items)) for items in lot)
                deed, told, _ = lot[hand][number - 1]
                items = lot[hand][:number - 1] + ((deed, told, row),) + lot[hand][number:]
                bent = lot[:hand] + (items,) + lot[hand + 1:]
                rows = [item[2] for items in bent for item in items]
                right = row[hand] == number - 1 and not any(parted(one, row) for one in rows)
                self.check(bent, right, table)
                seen[right] += 1
            self.assertEqual(len(lot), hands)
        self.assertGreater(min(seen.values()), 30)

    def test_no_table(self):
        check_refused(self, BadTable, is_lot, [TABLE, LOT], 0, NO_TABLE)
        check_refused(self, BadTable, is_lot, [TABLE, None], 0, NO_TABLE)


class Orders(unittest.TestCase):
    def test_by_hand(self):
        self.assertEqual(looks_order(TABLE, LOT), [(0, 1), (1, 1), (0, 2), (1, 2)])
        self.assertEqual(looks_order(table=TABLE, lot=((), ())), [])
        self.assertEqual(looks_order(TABLE, (((0, 0, (0, 1)),), ((0, 0, (0, 0)),))), [(1, 1), (0, 1)])
        self.assertEqual(looks_order(TABLE, sees_all(60)), [(0, k + 1) for k in range(60)])

    def test_sees_by_hand(self):
        told = {((1, 1), (0, 1)), ((1, 2), (0, 1)), ((1, 2), (1, 1)), ((0, 2), (0, 1)), ((0, 2), (1, 1))}
        for one, other in product(deeds_in(LOT), repeat=2):
            self.assertIs(sees(TABLE, LOT, one, other), (one, other) in told)
            self.assertIs(sees(table=TABLE, lot=LOT, one=one, other=other), (one, other) in told)

    def test_drawn(self):
        for table, lot in lots(702, 150):
            order = looks_order(table, lot)
            self.assertEqual(order, order_by_words(lot))
            places = {deed: place for place, deed in enumerate(order)}
            for one, other in product(order, repeat=2):
                told = sees(table, lot, one, other)
                self.assertIs(told, sees_by_words(lot, one, other))
                # What a deed sees stands ahead of it, and it sees what that sees; the deeds of one hand see one another.
                self.assertTrue(not told or places[other] < places[one])
                self.assertTrue(not told or all(sees(table, lot, one, deed) for deed in order if sees(table, lot, other, deed)))
                self.assertTrue(one[0] != other[0] or told == (other[1] < one[1]))

    def test_a_list_that_is_returned_is_new(self):
        looks_order(TABLE, LOT).clear()
        self.assertEqual(len(looks_order(TABLE, LOT)), 4)

    def test_errors(self):
        for call, args in ((looks_order, [TABLE, LOT]), (sees, [TABLE, LOT, (0, 1), (1, 1)]), (within, [TABLE, LOT, (0, 0)])):
            check_refused(self, BadTable, call, args, 0, NO_TABLE)
            check_refused(self, BadLot, call, args, 1, [*NO_LOT, *bends(LOT), sees_all(61)])
            check_sequence(self, call, args, [(0, None, BadTable), (1, None, BadLot)])
        args = [TABLE, LOT, (0, 1), (1, 1)]
        pairs = [*odd_values(), (), (0,), (0, 0), (0, 3), (2, 1), (-1, 1), (0, 1, 1), [0, 1], (False, 1), (0, True), (0, None), 5,
                 *bends((1, 2))]
        check_refused(self, BadPair, sees, args, 2, pairs)
        check_refused(self, BadPair, sees, args, 3, pairs)
        check_sequence(self, sees, args, [(1, None, BadLot), (2, (0, 0), BadPair)])


class Within(unittest.TestCase):
    def test_by_hand(self):
        closed = {(0, 0): ((), ()), (1, 0): (LOT[0][:1], ()), (1, 1): (LOT[0][:1], LOT[1][:1]), (2, 1): (LOT[0], LOT[1][:1]),
                  (1, 2): (LOT[0][:1], LOT[1]), (2, 2): LOT}
        for row in product(range(4), repeat=2):
            if row in closed:
                self.assertEqual(within(table=TABLE, lot=LOT, row=row), closed[row])
            else:
                check_refused(self, BadRow, within, [TABLE, LOT, row], 2, [row])

    def test_drawn(self):
        seen = 0
        for table, lot in lots(703, 100, 3, 7):
            closed = list(closed_rows(lot))
            for row in product(*(range(len(items) + 2) for items in lot)):
                if row in closed:
                    told = within(table, lot, row)
                    self.assertEqual(told, cut(lot, row))
                    self.assertIs(is_lot(table, told), True)
                else:
                    seen += 1
                    check_refused(self, BadRow, within, [table, lot, row], 2, [row])
            # The row of each look is closed, and so is that of the lot.
            self.assertTrue(all(item[2] in closed for items in lot for item in items))
            self.assertIn(tuple(len(items) for items in lot), closed)
        self.assertGreater(seen, 100)

    def test_what_is_no_row(self):
        rows = [*odd_values(), (), (0,), (0, 0, 0), [0, 0], (0, -1), (True, 0), (1, False), (3, 0), (2, 3), *bends((1, 1)), 5]
        check_refused(self, BadRow, within, [TABLE, LOT, (1, 1)], 2, rows)
        check_sequence(self, within, [TABLE, LOT, (1, 1)], [(1, None, BadLot), (2, None, BadRow)])


class LotsOfStocks(unittest.TestCase):
    STORE = (2, 4, 1)

    def test_by_hand(self):
        book, stock = two_hands()
        table = tuple(((0, 0),) for _ in range(12))
        lot = (((0, 0, (0, 0)), (0, 0, (1, 1))), ((11, GREATEST, (1, 0)), (3, 4, (1, 1))))
        for row in product(range(4), repeat=2):
            args = [book.trust, self.STORE, table, stock, row]
            if plain_is_closed(book.trust, stock, row):
                self.assertEqual(lot_of(*args), cut(lot, row))
                self.assertEqual(lot_of(trust=book.trust, store=self.STORE, table=table, stock=stock, row=row), cut(lot, row))
            else:
                check_refused(self, BadRow, lot_of, args, 4, [row])
        # The deeds 11 and 3 are none of a smaller table; where no such sheet is taken there is a lot.
        small = (((0, 0),),)
        check_refused(self, BadLot, lot_of, [book.trust, self.STORE, table, stock, (1, 1)], 2, [small])
        self.assertEqual(lot_of(book.trust, self.STORE, small, stock, (1, 0)), cut(lot, (1, 0)))

    def test_the_row_of_the_last_look_is_told(self):
        book = Book(self.STORE)
        first = book.sheet(1, 1, (book.look((0, 0)),))
        second = book.sheet(0, 1, (book.look((0, 0)), book.look((0, 1))), 2, 9)
        told = lot_of(book.trust, self.STORE, TABLE, ((second,), (first,)), (1, 1))
        self.assertEqual(told, (((2, 9, (0, 1)),), ((0, 0, (0, 0)),)))

    def test_rows_off_one_line_make_no_lot(self):
        # Two looks that are parted, up to a closed row.
        book = Book((3, 4, 1))
        sheets = [book.sheet(0, 1, (book.look((0, 0, 0)),)), book.sheet(1, 1, (book.look((0, 0, 0)),)),
                  book.sheet(2, 1, (book.look((1, 0, 0)),)), book.sheet(0, 2, (book.look((1, 1, 0)),))]
        stock = ((sheets[0], sheets[3]), (sheets[1],), (sheets[2],))
        self.assertEqual(len(lot_of(book.trust, (3, 4, 1), TABLE, stock, (2, 1, 1))), 3)
        off = book.sheet(2, 1, (book.look((2, 0, 0)),))
        check_refused(self, BadLot, lot_of, [book.trust, (3, 4, 1), TABLE, stock, (2, 1, 1)], 3, [(*stock[:2], (off,))])

    def test_sixty_one_sheets_make_no_lot(self):
        book = Book((1, 1, 0))
        sheets = tuple(book.sheet(0, k + 1, (book.look((k,)),)) for k in range(61))
        told = lot_of(book.trust, (1, 1, 0), TABLE, (sheets,), (60,))
        self.assertEqual(told, (tuple((0, 0, (k,)) for k in range(60)),))
        check_refused(self, BadLot, lot_of, [book.trust, (1, 1, 0), TABLE, (sheets,), (60,)], 4, [(61,)])

    def test_drawn(self):
        draw = random.Random(704)
        for store in ((2, 4, 1), (3, 1, 0)) * 8:
            book, stock = drawn_stock(draw, store, 5, True)
            for row in product(*(range(len(sheets) + 1) for sheets in stock)):
                args = [book.trust, store, TABLE, stock, row]
                if plain_is_closed(book.trust, stock, row):
                    lot = lot_of(*args)
                    self.assertIs(is_lot(TABLE, lot), True)
                    contents = [[book.trust.content(name) for name in sheets] for sheets in cut(stock, row)]
                    self.assertEqual(lot, tuple(tuple((c[3], c[4], c[5][-1][0]) for c in part) for part in contents))
                    self.assertTrue(all(below(item[2], row) for items in lot for item in items))
                else:
                    check_refused(self, BadRow, lot_of, args, 4, [row])

    def test_errors(self):
        book, stock = two_hands()
        args = [book.trust, self.STORE, tuple(((0, 0),) for _ in range(12)), stock, (1, 1)]
        check_refused(self, BadTrust, lot_of, args, 0, NO_TRUST)
        check_refused(self, BadStore, lot_of, args, 1, NO_STORE)
        check_refused(self, BadTable, lot_of, args, 2, NO_TABLE)
        check_refused(self, BadStock, lot_of, args, 3, [*odd_values(), (), ((),), stock[::-1], [(), ()], *bends(stock)])
        check_refused(self, BadRow, lot_of, args, 4, [*odd_values(), (), (0,), (0, 0, 0), [1, 1], (True, 1), (0, 1), (3, 2),
                                                      *bends((1, 1))])
        check_sequence(self, lot_of, args, [(0, None, BadTrust), (1, None, BadStore), (2, None, BadTable), (3, None, BadStock),
                                            (4, None, BadRow), ])
        small = [*args[:2], (((0, 0),),), *args[3:]]
        check_sequence(self, lot_of, small, [(3, None, BadStock), (4, (0, 1), BadRow), (4, (1, 1), BadLot)])


if __name__ == "__main__":
    unittest.main()
