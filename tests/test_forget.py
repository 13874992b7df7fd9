"""Points 102 and 103, with 70 to 73: what may be forgotten of a lot, and what goes on from the rest."""

import random
import unittest
from itertools import product

from seenatonce.errors import BadHand, BadLot, BadRow, BadState, BadTable, NotServed, SeenError, StillHeld
from seenatonce.forget import folded, forgettable, holder_of, least_next
from seenatonce.lots import is_lot, within
from seenatonce.tables import counting_table
from seenatonce.webs import answers_due, grown, left_out, sequence_of, state_of
from tests.helpers import below, bends, check_refused, check_sequence, odd_values, parted, row_of_tuples
from tests.lots_helpers import EXAMPLE, deeds_in, drawn_lot, drawn_served_table
from tests.test_lots import LOT, NO_LOT, NO_TABLE, TABLE, lots, sees_all

# The example of [102].
BY_HAND = (((0, 0, (0, 0)),), ((0, 0, (1, 0)),))
# Two deeds that put what was there beside, so that neither commutes with the other nor overwrites it.
NOT_SERVED = (((0, 0), (0, 1)), ((1, 0), (1, 1)))


def rows_below(row):
    return product(*(range(many + 1) for many in row))


def looks_in(lot):
    return [row for items in lot for _, _, row in items]


def next_rows(lot, hand):
    """All rows that the look of the hand's next deed can have."""
    return [row for row in rows_below(row_of_tuples(lot)) if row[hand] == len(lot[hand]) and not any(parted(row, other) for other in looks_in(lot))]


def grows_to(lot, hand, row):
    return lot[:hand] + (lot[hand] + ((0, 0, row),),) + lot[hand + 1:]


def grown_lots(lot, many):
    """All lots to which a lot grows by at most so many deeds; the deeds themselves mean nothing here."""
    yield lot
    if many:
        for hand in range(len(lot)):
            for row in next_rows(lot, hand):
                yield from grown_lots(grows_to(lot, hand, row), many - 1)


def sees_the_whole(lot, row):
    """Whether each deed that the row does not reach sees the whole row."""
    return all(below(row, lot[hand][number - 1][2]) for hand, number in deeds_in(lot) if number > row[hand])


def holder_by_words(lot, row):
    """By the words of [102], with a walk over all rows of the next looks."""
    for hand, number in deeds_in(lot):
        if number > row[hand] and not below(row, lot[hand][number - 1][2]):
            return ("deed", hand, number)
    for hand in range(len(lot)):
        rows = next_rows(lot, hand)
        (least,) = [one for one in rows if all(below(one, other) for other in rows)]
        if not below(row, least):
            return ("look", hand, least)
    return None


def less(row, other):
    return tuple(a - b for a, b in zip(row, other))


def more(row, other):
    return tuple(a + b for a, b in zip(row, other))


def drawn_long_lot(draw, table, hands, tries):
    """A lot whose looks mostly see much, so that there is something to forget."""
    lot, last = ((),) * hands, (0,) * hands
    for _ in range(tries):
        hand = draw.randrange(hands)
        rows = [row for row in ([tuple(draw.randint(a, b) if draw.random() < 0.4 else b for a, b in zip(last, row_of_tuples(lot)))])]
        row = rows[0][:hand] + (len(lot[hand]),) + rows[0][hand + 1:]
        if not any(parted(row, other) for other in looks_in(lot)):
            last = max(last, row)
            lot = lot[:hand] + (lot[hand] + ((draw.randrange(len(table)), draw.randrange(2), row),),) + lot[hand + 1:]
    return lot


class ByHand(unittest.TestCase):
    def test_the_example(self):
        self.assertEqual(least_next(TABLE, BY_HAND, 0), (1, 0))
        self.assertEqual(least_next(TABLE, BY_HAND, 1), (1, 1))
        self.assertEqual(holder_of(TABLE, BY_HAND, (1, 1)), ("look", 0, (1, 0)))
        self.assertEqual(forgettable(TABLE, BY_HAND), (1, 0))

    def test_by_names(self):
        self.assertEqual(least_next(table=TABLE, lot=BY_HAND, hand=0), (1, 0))
        self.assertIsNone(holder_of(table=TABLE, lot=BY_HAND, row=(1, 0)))
        self.assertEqual(forgettable(table=TABLE, lot=BY_HAND), (1, 0))
        self.assertEqual(folded(table=TABLE, begin=0, lot=BY_HAND, row=(1, 0)), (1, ((), ((0, 0, (0, 0)),))))

    def test_what_holds_the_example(self):
        for row, holder in (((0, 0), None), ((1, 0), None), ((0, 1), ("deed", 0, 1)), ((1, 1), ("look", 0, (1, 0)))):
            self.assertEqual(holder_of(TABLE, BY_HAND, row), holder)

    def test_a_hand_that_has_done_nothing(self):
        lot = (LOT[0], LOT[1], ())
        lot = tuple(tuple((deed, answer, (*row, 0)) for deed, answer, row in items) for items in lot)
        self.assertEqual(least_next(TABLE, lot, 2), (0, 0, 0))
        self.assertEqual(forgettable(TABLE, lot), (0, 0, 0))
        self.assertEqual(holder_of(TABLE, lot, (1, 0, 0)), ("look", 2, (0, 0, 0)))
        self.assertEqual(forgettable(TABLE, LOT), (1, 1))

    def test_lots_without_deeds(self):
        for hands in range(1, 7):
            no = (0,) * hands
            lot = ((),) * hands
            self.assertEqual([least_next(TABLE, lot, hand) for hand in range(hands)], [no] * hands)
            self.assertIsNone(holder_of(TABLE, lot, no))
            self.assertEqual(forgettable(TABLE, lot), no)
            self.assertEqual(folded(TABLE, 2, lot, no), (2, lot))

    def test_one_hand(self):
        for many in (0, 1, 5):
            lot = sees_all(many)
            self.assertEqual(least_next(TABLE, lot, 0), (many,))
            self.assertEqual(forgettable(TABLE, lot), (many,))
            self.assertEqual(folded(TABLE, 0, lot, (many,)), (many % 3, ((),)))

    def test_the_row_of_the_lot(self):
        # Both hands have seen all there is but their own last deeds.
        lot = (((0, 0, (0, 0)), (0, 0, (1, 1))), ((0, 0, (1, 0)),))
        self.assertEqual(forgettable(TABLE, lot), (1, 1))
        self.assertEqual(holder_of(TABLE, lot, (2, 1)), ("look", 1, (1, 1)))
        self.assertEqual(folded(TABLE, 0, lot, (1, 1)), (2, (((0, 0, (0, 0)),), ())))

    def test_sixty_deeds_and_sixty_one(self):
        lot = [(), ()]
        for k in range(60):
            lot[k % 2] += ((0, 0, row_of_tuples(lot)),)
        lot = tuple(lot)
        self.assertEqual(least_next(TABLE, lot, 0), (30, 29))
        self.assertEqual(least_next(TABLE, lot, 1), (30, 30))
        self.assertEqual(forgettable(TABLE, lot), (30, 29))
        self.assertEqual(holder_of(TABLE, lot, (30, 30)), ("look", 0, (30, 29)))
        state, rest = folded(TABLE, 0, lot, (30, 29))
        self.assertEqual((state, rest), (59 % 3, ((), ((0, 0, (0, 0)),))))
        long = (lot[0] + ((0, 0, (30, 30)),), lot[1])
        for call, args in ((least_next, [TABLE, long, 0]), (holder_of, [TABLE, long, (0, 0)]), (forgettable, [TABLE, long]), (folded, [TABLE, 0, long, (0, 0)])):
            with self.assertRaises(BadLot):
                call(*args)
        self.assertEqual(least_next(TABLE, sees_all(60), 0), (60,))
        self.assertEqual(folded(TABLE, 0, sees_all(60), (60,)), (0, ((),)))


class Drawn(unittest.TestCase):
    def each(self, seed, many):
        yield from lots(seed, many, 3, 6)
        draw = random.Random(seed)
        for _ in range(many):
            table = drawn_served_table(draw)
            yield table, drawn_long_lot(draw, table, draw.randint(1, 3), draw.randint(0, 7))

    def test_next_looks(self):
        for table, lot in self.each(1020, 80):
            for hand in range(len(lot)):
                least = least_next(table, lot, hand)
                rows = next_rows(lot, hand)
                self.assertIn(least, rows)
                self.assertTrue(all(below(least, row) for row in rows))

    def test_holders_and_the_greatest_row(self):
        held = {None: 0, "deed": 0, "look": 0}
        for table, lot in self.each(1021, 120):
            greatest = forgettable(table, lot)
            for row in rows_below(row_of_tuples(lot)):
                holder = holder_of(table, lot, row)
                self.assertEqual(holder, holder_by_words(lot, row))
                held[holder and holder[0]] += 1
                if holder is None:
                    self.assertTrue(below(row, greatest))
            self.assertIsNone(holder_of(table, lot, greatest))
        self.assertGreater(min(held.values()), 200)

    def test_against_all_lots_to_which_a_lot_grows(self):
        many = 0
        for table, lot in self.each(1022, 40):
            further = list(grown_lots(lot, 2 if sum(row_of_tuples(lot)) < 5 else 1))
            for row in rows_below(row_of_tuples(lot)):
                self.assertEqual(holder_of(table, lot, row) is None, all(sees_the_whole(other, row) for other in further))
            for other in further[:40]:
                many += 1
                self.assertTrue(below(forgettable(table, lot), forgettable(table, other)))
                for hand in range(len(lot)):
                    if len(other[hand]) > len(lot[hand]):
                        for _, _, row in other[hand][len(lot[hand]):]:
                            self.assertTrue(below(least_next(table, lot, hand), row))
        self.assertGreater(many, 500)

    def test_a_row_that_the_next_deed_of_each_hand_sees_may_be_forgotten(self):
        many = 0
        for table, lot in self.each(1023, 150):
            for row in rows_below(row_of_tuples(lot)):
                following = [(hand, number + 1) for hand, number in enumerate(row)]
                if all(number <= len(lot[hand]) and below(row, lot[hand][number - 1][2]) for hand, number in following):
                    self.assertIsNone(holder_of(table, lot, row))
                    many += 1
        self.assertGreater(many, 100)


class Folded(unittest.TestCase):
    def check(self, table, begin, lot, row):
        state, rest = folded(table, begin, lot, row)
        self.assertIs(is_lot(table, rest), True)
        self.assertEqual(state, state_of(table, begin, within(table, lot, row)))
        for hand, items in enumerate(lot):
            self.assertEqual([(deed, answer, more(seen, row)) for deed, answer, seen in rest[hand]], list(items[row[hand]:]))
        # The rest goes on as the whole does.
        sequence = sequence_of(table, within(table, lot, row)) + [(hand, number + row[hand]) for hand, number in sequence_of(table, rest)]
        self.assertEqual(sequence_of(table, lot), sequence)
        self.assertEqual(state_of(table, state, rest), state_of(table, begin, lot))
        self.assertEqual(answers_due(table, state, rest), tuple(due[many:] for due, many in zip(answers_due(table, begin, lot), row)))
        omitted = [edge for edge in left_out(table, lot) if all(number > row[hand] for hand, number in edge)]
        self.assertEqual([tuple((hand, number + row[hand]) for hand, number in edge) for edge in left_out(table, rest)], omitted)
        self.assertEqual(left_out(table, within(table, lot, row)), [edge for edge in left_out(table, lot) if edge not in omitted])
        self.assertEqual(more(forgettable(table, rest), row), forgettable(table, lot))
        return state, rest

    def check_grown(self, draw, table, begin, lot, row, state, rest):
        """A deed that the lot can be grown by is one that the rest can be grown by, and the other way about."""
        hand, deed = draw.randrange(len(lot)), draw.randrange(len(table))
        for seen in rows_below(row_of_tuples(lot)):
            try:
                whole = grown(table, begin, lot, hand, deed, seen)
            except BadRow:
                whole = None
            try:
                part = grown(table, state, rest, hand, deed, less(seen, row))
            except BadRow:
                part = None
            self.assertEqual(whole is None, part is None)
            if whole is not None:
                self.assertEqual(whole[hand][-1][1], part[hand][-1][1])
                self.assertEqual(folded(table, begin, whole, row), (state, part))

    def test_drawn(self):
        draw = random.Random(1030)
        proper = 0
        for _ in range(150):
            table = drawn_served_table(draw)
            lot = drawn_long_lot(draw, table, draw.randint(1, 3), draw.randint(1, 9)) if draw.random() < 0.8 else drawn_lot(draw, table, 3, 6)
            begin = draw.randrange(len(table[0]))
            for row in rows_below(row_of_tuples(lot)):
                if holder_of(table, lot, row) is None:
                    state, rest = self.check(table, begin, lot, row)
                    self.check_grown(draw, table, begin, lot, row, state, rest)
                    proper += 0 < sum(row) < sum(row_of_tuples(lot))
                else:
                    with self.assertRaises(StillHeld) as caught:
                        folded(table, begin, lot, row)
                    self.assertEqual(caught.exception.holder, holder_of(table, lot, row))
        self.assertGreater(proper, 100)

    def test_edges_left_out_are_the_same(self):
        # The example of [73] behind deeds that all have seen.
        draw = random.Random(1031)
        many = 0
        for _ in range(60):
            lot = [()] * 3
            for k in range(3):
                lot[k] = ((draw.randrange(5), 0, tuple(len(items) for items in lot)),)
            base = tuple(tuple((deed, 0, (0,) * k + (0,) * (3 - k)) for deed, _, _ in items) for k, items in enumerate(lot))
            lot = base
            for hand in (0, 1, 2, draw.randrange(3), draw.randrange(3), draw.randrange(3)):
                rows = [row for row in next_rows(lot, hand) if below((1, 1, 1), row)]
                if rows:
                    lot = lot[:hand] + (lot[hand] + ((draw.randrange(5), 0, draw.choice(rows[:3])),),) + lot[hand + 1:]
            if holder_of(EXAMPLE, lot, (1, 1, 1)) is None:
                many += bool(left_out(EXAMPLE, self.check(EXAMPLE, draw.randrange(4), lot, (1, 1, 1))[1]))
        self.assertGreater(many, 0)

    def test_the_row_of_all_noughts(self):
        for table, lot in lots(1032, 40):
            self.assertEqual(folded(table, 0, lot, (0,) * len(lot)), (0, lot))

    def test_still_held(self):
        for row, holder in (((0, 1), ("deed", 0, 1)), ((1, 1), ("look", 0, (1, 0)))):
            with self.assertRaises(StillHeld) as caught:
                folded(TABLE, 0, BY_HAND, row)
            self.assertEqual(caught.exception.holder, holder)


class Errors(unittest.TestCase):
    def test_errors(self):
        rows = [*odd_values(), (0,), (0, 0, 0), (3, 0), (0, 3), (0, -1), [0, 0], *bends((1, 1))]
        for call, args, place in ((least_next, [TABLE, LOT, 0], 1), (holder_of, [TABLE, LOT, (1, 1)], 1), (forgettable, [TABLE, LOT], 1), (folded, [TABLE, 0, LOT, (1, 1)], 2)):
            check_refused(self, BadTable, call, args, 0, NO_TABLE)
            check_refused(self, BadLot, call, args, place, [*NO_LOT, *bends(LOT)])
        check_refused(self, BadHand, least_next, [TABLE, LOT, 0], 2, [*odd_values(), 2, -1, (), "0", (0,), [0]])
        check_refused(self, BadRow, holder_of, [TABLE, LOT, (1, 1)], 2, rows)
        check_refused(self, BadRow, folded, [TABLE, 0, LOT, (1, 1)], 3, rows)
        check_refused(self, BadState, folded, [TABLE, 0, LOT, (1, 1)], 1, [*odd_values(), 3, -1, (), "0", (0,)])

    def test_sequence(self):
        bad = [(0, None, BadTable), (1, None, BadLot)]
        check_sequence(self, least_next, [TABLE, LOT, 0], bad + [(2, None, BadHand)])
        check_sequence(self, holder_of, [TABLE, LOT, (1, 1)], bad + [(2, None, BadRow)])
        check_sequence(self, forgettable, [TABLE, LOT], bad)
        check_sequence(self, folded, [TABLE, 0, LOT, (1, 1)], [(0, None, BadTable), (0, NOT_SERVED, NotServed), (1, None, BadState), (2, None, BadLot), (3, None, BadRow),
                                                               (3, (2, 2), StillHeld)])

    def test_tables_that_are_not_served(self):
        lot = (((0, 0, (0,)),),)
        with self.assertRaises(NotServed) as caught:
            folded(NOT_SERVED, 0, lot, (0,))
        self.assertEqual((caught.exception.one, caught.exception.other), (0, 0))
        self.assertEqual(least_next(NOT_SERVED, lot, 0), (1,))
        self.assertIsNone(holder_of(NOT_SERVED, lot, (1,)))
        self.assertEqual(forgettable(NOT_SERVED, lot), (1,))

    def test_what_is_refused_is_below_seen_error(self):
        for call, args in ((least_next, (TABLE, LOT, 9)), (holder_of, (TABLE, LOT, None)), (forgettable, (None, LOT)), (folded, (counting_table(3), 0, LOT, (2, 2)))):
            with self.assertRaises(SeenError):
                call(*args)


if __name__ == "__main__":
    unittest.main()
