"""Points 71, 72 and 73: webs of deeds, their sequences, and what stays; with points 10 and 11."""

import random
import unittest
from itertools import product

from seenatonce.errors import (BadDeed, BadEdge, BadHand, BadLot, BadRow, BadSequence, BadState, BadTable, NotServed)
from seenatonce.lots import is_lot, looks_order
from seenatonce.tables import counting_table, growing_table
from seenatonce.webs import (answers_due, edges, grown, is_borne, is_sequence, led_along, left_out, sequence_of, state_of,
                             way_back)
from tests.helpers import GREATEST, bends, check_refused, check_sequence, odd_values, parted
from tests.lots_helpers import (EXAMPLE, bearing, closed_rows, cut, deeds_in, drawn_lot, drawn_served_table, due_by_words, leads,
                                run, sees_by_words, sequences_by_words, web_by_words, wished_by_words)
from tests.test_lots import LOT, NO_LOT, NO_TABLE, TABLE, sees_all

# Hands 0 to 3 do the deeds 2, 1, 0, 3, the last one seeing that of hand 2, the others none; hand 4 does nothing yet.
WEB = (((2, 0, (0, 0, 0, 0, 0)),), ((1, 0, (0, 0, 0, 0, 0)),), ((0, 0, (0, 0, 0, 0, 0)),), ((3, 0, (0, 0, 1, 0, 0)),), ())
# Two numbers that are swapped: not served.
SWAP = (((0, 0), (0, 1)), ((1, 0), (1, 1)), ((0, 0), (1, 1)))
NO_STATE = [*odd_values(), -1, 4, (), (0,), 10 ** 18]


def webs(seed, many, most_hands=4, most=6):
    """Drawn lots of at most so many deeds over served tables, with their edges and those left out."""
    draw = random.Random(seed)
    for _ in range(many):
        table = drawn_served_table(draw)
        lot = drawn_lot(draw, table, draw.randint(1, most_hands), draw.randint(0, most))
        made, omitted = web_by_words(table, lot)
        yield draw, table, lot, made, omitted


def ring_webs(seed, many):
    """The same, of which many have edges left out."""
    draw = random.Random(seed)
    for _ in range(many):
        lot = drawn_lot(draw, EXAMPLE, 4, 6)
        made, omitted = web_by_words(EXAMPLE, lot)
        yield draw, EXAMPLE, lot, made, omitted


class ByHand(unittest.TestCase):
    def test_the_web(self):
        a, b, c, d = (0, 1), (1, 1), (2, 1), (3, 1)
        self.assertEqual(edges(EXAMPLE, WEB), [(a, b), (a, c), (b, c), (c, d)])
        self.assertEqual(left_out(EXAMPLE, WEB), [(d, a), (d, b)])
        self.assertEqual(way_back(EXAMPLE, WEB, d, a), [a, c, d])
        self.assertEqual(way_back(EXAMPLE, WEB, d, b), [b, c, d])
        self.assertEqual(sequence_of(EXAMPLE, WEB), [a, b, c, d])

    def test_a_late_answer(self):
        lot = grown(EXAMPLE, 2, WEB, 4, 4, (1, 0, 1, 1, 0))
        self.assertEqual(lot, (*WEB[:4], ((4, 1, (1, 0, 1, 1, 0)),)))
        self.assertEqual(sequence_of(EXAMPLE, lot), [(0, 1), (1, 1), (2, 1), (3, 1), (4, 1)])
        self.assertEqual(led_along(EXAMPLE, 2, lot, sequence_of(EXAMPLE, lot)), (1, [0, 0, 0, 0, 1]))
        states = [led_along(EXAMPLE, 2, cut(lot, row), sequence_of(EXAMPLE, cut(lot, row)))[0]
                  for row in ((1, 0, 0, 0, 0), (1, 1, 0, 0, 0), (1, 1, 1, 0, 0), (1, 1, 1, 1, 0))]
        self.assertEqual(states, [3, 2, 0, 1])
        self.assertEqual(state_of(EXAMPLE, 2, lot), 1)
        self.assertIs(is_borne(EXAMPLE, 2, lot), True)
        self.assertEqual(answers_due(EXAMPLE, 2, lot), ((0,), (0,), (0,), (0,), (1,)))

    def test_parameters_by_name(self):
        lot = grown(table=EXAMPLE, begin=2, lot=WEB, hand=4, deed=4, row=(1, 0, 1, 1, 0))
        self.assertEqual(edges(table=EXAMPLE, lot=lot), edges(EXAMPLE, lot))
        self.assertEqual(left_out(table=EXAMPLE, lot=lot), left_out(EXAMPLE, lot))
        self.assertEqual(len(way_back(table=EXAMPLE, lot=WEB, one=(3, 1), other=(0, 1))), 3)
        sequence = sequence_of(table=EXAMPLE, lot=lot)
        self.assertIs(is_sequence(table=EXAMPLE, lot=lot, value=sequence), True)
        self.assertEqual(led_along(table=EXAMPLE, begin=2, lot=lot, sequence=sequence)[0], 1)
        self.assertEqual(state_of(table=EXAMPLE, begin=2, lot=lot), 1)
        self.assertEqual(answers_due(table=EXAMPLE, begin=2, lot=lot)[4], (1,))
        self.assertIs(is_borne(table=EXAMPLE, begin=2, lot=lot), True)

    def test_deeds_that_overwrite_one_another_go_by_hands(self):
        lot = (((1, 0, (0, 0)),), ((1, 0, (0, 0)),))
        self.assertEqual(edges(TABLE, lot), [((0, 1), (1, 1))])
        # Hand 0 looks later, at a greater row, which lacks the deed of hand 1 nevertheless.
        late = (((0, 0, (0, 0, 0)),), ((1, 0, (0, 0, 1)),), ((1, 0, (0, 0, 0)),))
        self.assertEqual(edges(TABLE, late), [((0, 1), (1, 1)), ((0, 1), (2, 1)), ((2, 1), (1, 1))])
        turned = (((1, 0, (0, 0, 1)),), ((1, 0, (0, 0, 0)),), ((0, 0, (0, 0, 0)),))
        self.assertEqual(edges(TABLE, turned), [((0, 1), (1, 1)), ((2, 1), (0, 1)), ((2, 1), (1, 1))])

    def test_whether_deeds_commute_as_well_means_nothing(self):
        # A look overwrites, and is overwritten by, another look, and commutes with it; counting on commutes alone.
        looks = (((2, 0, (0, 0)),), ((2, 0, (0, 0)),))
        self.assertEqual(edges(TABLE, looks), [((0, 1), (1, 1))])
        counts = (((0, 0, (0, 0)),), ((0, 0, (0, 0)),))
        self.assertEqual((edges(TABLE, counts), left_out(TABLE, counts)), ([], []))

    def test_empty_lots(self):
        for hands in range(1, 7):
            lot = ((),) * hands
            self.assertEqual((edges(TABLE, lot), left_out(TABLE, lot), sequence_of(TABLE, lot)), ([], [], []))
            self.assertEqual((answers_due(TABLE, 1, lot), state_of(TABLE, 1, lot), is_borne(TABLE, 1, lot)), (lot, 1, True))
            self.assertEqual(led_along(TABLE, 2, lot, []), (2, []))
            self.assertIs(is_sequence(TABLE, lot, []) and is_sequence(TABLE, lot, ()), True)
            self.assertIs(is_sequence(TABLE, lot, [(0, 1)]), False)

    def test_sixty_deeds_each_of_which_sees_all_ahead(self):
        lot = sees_all(60)
        deeds = deeds_in(lot)
        self.assertEqual(edges(TABLE, lot), [(one, other) for one in deeds for other in deeds if one < other])
        self.assertEqual((left_out(TABLE, lot), sequence_of(TABLE, lot), state_of(TABLE, 1, lot)), ([], deeds, 1))
        self.assertEqual(answers_due(TABLE, 0, lot), ((0,) * 60,))
        check_refused(self, BadLot, edges, [TABLE, lot], 1, [sees_all(61)])
        lot = tuple(tuple((2, 6 * k + hand, tuple(k + (other < hand) for other in range(6))) for k in range(10)) for hand in range(6))
        self.assertIs(is_lot(TABLE, lot), True)
        self.assertEqual(len(edges(TABLE, lot)), 60 * 59 // 2)
        self.assertEqual(sequence_of(TABLE, lot), looks_order(TABLE, lot))

    def test_a_lot_grows_to_sixty_deeds(self):
        draw = random.Random(711)
        table = growing_table(3)
        lot = drawn_lot(draw, table, 6, 59)
        while sum(map(len, lot)) < 59:
            row = tuple(len(items) for items in lot)
            lot = grown(table, 0, lot, sum(row) % 6, sum(row) % 4, row)
        row = tuple(len(items) for items in lot)
        lot = grown(table, 0, lot, 3, 3, row)
        self.assertIs(is_lot(table, lot), True)
        self.assertIs(is_borne(table, 0, bearing(lot, answers_due(table, 0, lot))), True)
        self.assertIs(is_sequence(table, lot, sequence_of(table, lot)), True)


class Webs(unittest.TestCase):
    def check_web(self, table, lot, made, omitted):
        self.assertEqual(edges(table, lot), made)
        self.assertEqual(left_out(table, lot), omitted)

    def test_drawn(self):
        for _, table, lot, made, omitted in webs(712, 400, 5, 9):
            self.check_web(table, lot, made, omitted)

    def test_drawn_with_edges_left_out(self):
        many = 0
        for _, table, lot, made, omitted in ring_webs(713, 400):
            self.check_web(table, lot, made, omitted)
            many += len(omitted)
        self.assertGreater(many, 50)

    def test_the_same_deeds_at_other_looks(self):
        # The web is that of the table and the lot at hand, whichever were asked for ahead of it.
        for lot in (WEB, (*WEB[:3], ((3, 0, (0, 0, 0, 0, 0)),), ())):
            for table in (EXAMPLE, EXAMPLE[:4], EXAMPLE):
                self.check_web(table, lot, *web_by_words(table, lot))

    def test_shape(self):
        for _, table, lot, made, omitted in ring_webs(714, 100):
            order = looks_order(table, lot)
            for k, new in enumerate(order):
                for old in order[:k]:
                    edge = None if sees_by_words(lot, new, old) else wished_by_words(table, lot, old, new)
                    back = any(ahead == old and sees_by_words(lot, new, behind) for ahead, behind in made)
                    self.assertEqual(edge in omitted, edge == (new, old) and back)
                    self.assertEqual(edge is not None, edge in omitted or edge in made)

    def test_fact_of_ways(self):
        for _, _, lot, made, _ in [*ring_webs(715, 60), *webs(716, 60)]:
            for one, other in product(deeds_in(lot), repeat=2):
                unseen = [edge for edge in made if not sees_by_words(lot, edge[1], edge[0])]
                self.assertTrue(one == other or not leads(unseen, one, other) or (one, other) in made)

    def test_ways_back(self):
        many = 0
        for _, table, lot, made, omitted in [*ring_webs(717, 200), *webs(718, 200, 5, 9)]:
            for one, other in omitted:
                way = way_back(table, lot, one, other)
                many += 1
                self.assertEqual((way[0], way[-1]), (other, one))
                self.assertTrue(all(edge in made for edge in zip(way, way[1:])))
                self.assertEqual(len(way), len(shortest(made, other, one)))
        self.assertGreater(many, 50)

    def test_what_was_not_left_out_has_no_way_back(self):
        for table, lot in ((EXAMPLE, WEB), (TABLE, LOT)):
            for one, other in product(deeds_in(lot), repeat=2):
                if (one, other) not in left_out(table, lot):
                    check_refused(self, BadEdge, way_back, [table, lot, one, other], 2, [one])

    def test_the_web_up_to_a_closed_row(self):
        for _, table, lot, made, omitted in [*ring_webs(719, 80), *webs(720, 150, 3, 6)]:
            for row in closed_rows(lot):
                reached = [deed for deed in deeds_in(lot) if deed[1] <= row[deed[0]]]
                self.check_web(table, cut(lot, row), *([edge for edge in told if edge[0] in reached and edge[1] in reached]
                                                       for told in (made, omitted)))

    def test_lists_that_are_returned_are_new(self):
        edges(EXAMPLE, WEB).clear()
        left_out(EXAMPLE, WEB).clear()
        way_back(EXAMPLE, WEB, (3, 1), (0, 1)).clear()
        sequence_of(EXAMPLE, WEB).clear()
        led_along(EXAMPLE, 2, WEB, [(0, 1), (1, 1), (2, 1), (3, 1)])[1].clear()
        self.assertEqual(len(edges(EXAMPLE, WEB) + left_out(EXAMPLE, WEB)), 6)
        self.assertEqual(len(way_back(EXAMPLE, WEB, (3, 1), (0, 1)) + sequence_of(EXAMPLE, WEB)), 7)
        self.assertEqual(len(led_along(EXAMPLE, 2, WEB, sequence_of(EXAMPLE, WEB))[1]), 4)


def shortest(made, one, other):
    """A shortest way from one to other by these edges."""
    ways = [[one]]
    while not any(way[-1] == other for way in ways):
        ways = [way + [behind] for way in ways for ahead, behind in made if ahead == way[-1]]
    return next(way for way in ways if way[-1] == other)


class Sequences(unittest.TestCase):
    def test_drawn(self):
        for draw, table, lot, made, _ in [*webs(721, 100), *ring_webs(722, 60)]:
            sequences = list(sequences_by_words(lot, made))
            self.assertEqual(sequence_of(table, lot), sequences[0])
            for sequence in draw.sample(sequences, min(5, len(sequences))):
                self.assertIs(is_sequence(table, lot, sequence), True)
                self.assertIs(is_sequence(table, lot, tuple(sequence)), True)
            others = [draw.sample(deeds_in(lot), len(deeds_in(lot))) for _ in range(5)]
            for sequence in others:
                self.assertIs(is_sequence(table, lot, sequence), sequence in sequences)

    def test_what_is_no_sequence(self):
        deeds = deeds_in(WEB)
        for value in (*odd_values(), (), deeds[:3], deeds[1:], deeds + deeds[:1], deeds[:3] + deeds[:1], deeds[::-1], set(deeds),
                      [*deeds[:3], (4, 1)], [*deeds[:3], (3, 2)], [list(deed) for deed in deeds], [deeds], {deed: 0 for deed in deeds},
                      [(False, 1), *deeds[1:]], [(0, True), *deeds[1:]], [*deeds[:3], None], [*deeds[:3], (3,)], "deeds", 5):
            self.assertIs(is_sequence(EXAMPLE, WEB, value), False, value)
            check_refused(self, BadSequence, led_along, [EXAMPLE, 2, WEB, deeds], 3, [value])

    def test_led_along_drawn(self):
        for draw, table, lot, made, _ in [*webs(723, 80), *ring_webs(724, 40)]:
            begin = draw.randrange(len(table[0]))
            for sequence in list(sequences_by_words(lot, made))[:20]:
                state, answers = run(table, begin, lot, sequence)
                told = (state, [answers[deed] for deed in sequence])
                self.assertEqual(led_along(table, begin, lot, sequence), told)
                self.assertEqual(led_along(table, begin, lot, tuple(sequence)), told)

    def test_answers_of_the_lot_play_no_part(self):
        for draw, table, lot, made, omitted in webs(725, 80):
            other = bearing(lot, tuple(tuple(draw.randrange(9) for _ in items) for items in lot))
            self.assertEqual((edges(table, other), left_out(table, other), sequence_of(table, other)),
                             (made, omitted, sequence_of(table, lot)))
            self.assertEqual(answers_due(table, 0, other), answers_due(table, 0, lot))
            self.assertEqual(state_of(table, 0, other), state_of(table, 0, lot))

    def test_heart(self):
        # Every sequence of a lot gives each deed the answer that is due, and all end in one state.
        for draw, table, lot, made, _ in [*webs(726, 150), *ring_webs(727, 100)]:
            begin = draw.randrange(len(table[0]))
            due = due_by_words(table, begin, lot)
            self.assertEqual(answers_due(table, begin, lot), due)
            ends = set()
            for sequence in sequences_by_words(lot, made):
                state, answers = run(table, begin, lot, sequence)
                ends.add(state)
                self.assertTrue(all(due[hand][number - 1] == told for (hand, number), told in answers.items()))
            self.assertEqual(ends, {state_of(table, begin, lot)})

    def test_is_borne(self):
        seen = {True: 0, False: 0}
        for draw, table, lot, _, _ in [*webs(728, 150), *ring_webs(729, 50)]:
            due = due_by_words(table, 0, lot)
            self.assertIs(is_borne(table, 0, bearing(lot, due)), True)
            told = tuple(tuple(answer for _, answer, _ in items) for items in lot)
            self.assertIs(is_borne(table, 0, lot), told == due)
            seen[told == due] += 1
        self.assertGreater(min(seen.values()), 20)


class Growing(unittest.TestCase):
    def test_drawn(self):
        grew = 0
        for draw, table, lot, _, _ in [*webs(730, 90, 3, 5), *ring_webs(731, 30)]:
            begin = draw.randrange(len(table[0]))
            rows = [row for items in lot for _, _, row in items]
            hand, deed = draw.randrange(len(lot)), draw.randrange(len(table))
            for row in product(*(range(len(items) + 2) for items in lot)):
                below_all = all(many <= len(items) for many, items in zip(row, lot))
                if below_all and row[hand] == len(lot[hand]) and not any(parted(row, other) for other in rows):
                    seen = cut(lot, row)
                    state, _ = run(table, begin, seen, next(sequences_by_words(seen, web_by_words(table, seen)[0])))
                    told = grown(table, begin, lot, hand, deed, row)
                    self.assertEqual(told, (*lot[:hand], (*lot[hand], (deed, table[deed][state][1], row)), *lot[hand + 1:]))
                    self.assertIs(is_lot(table, told), True)
                    grew += 1
                    self.check_stays(table, begin, lot, told)
                else:
                    check_refused(self, BadRow, grown, [table, begin, lot, hand, deed, row], 5, [row])
        self.assertGreater(grew, 200)

    def check_stays(self, table, begin, lot, told):
        """What was answered stays: the answers that were due ahead are due in the lot that grew."""
        ahead, behind = answers_due(table, begin, lot), answers_due(table, begin, told)
        self.assertEqual(cut(behind, [len(items) for items in lot]), ahead)

    def test_lots_that_grow_bear_what_is_due(self):
        draw = random.Random(732)
        for _ in range(40):
            table = drawn_served_table(draw)
            begin = draw.randrange(len(table[0]))
            lot = ((),) * draw.randint(1, 4)
            for _ in range(8):
                rows = [row for row in product(*(range(len(items) + 1) for items in lot))
                        if not any(parted(row, item[2]) for items in lot for item in items)]
                row = draw.choice(rows)
                hands = [hand for hand in range(len(lot)) if row[hand] == len(lot[hand])]
                if hands:
                    lot = grown(table, begin, lot, draw.choice(hands), draw.randrange(len(table)), row)
                self.assertIs(is_borne(table, begin, lot), True)

    def test_the_last_deed_in_the_order_of_looks(self):
        for draw, table, lot, made, _ in [*webs(733, 150), *ring_webs(734, 80)]:
            begin = draw.randrange(len(table[0]))
            order = looks_order(table, lot)
            if order:
                hand, number = order[-1]
                rest = (*lot[:hand], lot[hand][:number - 1], *lot[hand + 1:])
                state = state_of(table, begin, rest)
                if not any(ahead == (hand, number) for ahead, _ in made):
                    state = table[lot[hand][number - 1][0]][state][0]
                self.assertEqual(state_of(table, begin, lot), state)

    def test_errors(self):
        args = [EXAMPLE, 2, WEB, 4, 4, (1, 0, 1, 1, 0)]
        check_refused(self, BadHand, grown, args, 3, [*odd_values(), -1, 5, 10 ** 18, (), (4,), "4"])
        check_refused(self, BadDeed, grown, args, 4, [*odd_values(), -1, 5, 10 ** 18, (), (4,), "4"])
        rows = [*odd_values(), (), (1, 0, 1, 1), (1, 0, 1, 1, 0, 0), [1, 0, 1, 1, 0], (1, 0, 1, 1, 1), (2, 0, 1, 1, 0), (0, 0, 0, 1, 0),
                (True, 0, 1, 1, 0), (1, False, 1, 1, 0), (1, 1, 0, 1, 0), *bends((1, 0, 1, 1, 0)), 5]
        check_refused(self, BadRow, grown, args, 5, rows)
        check_sequence(self, grown, args, [(0, None, BadTable), (0, SWAP, NotServed), (1, 4, BadState), (2, None, BadLot),
                                           (3, 5, BadHand), (4, 5, BadDeed), (5, None, BadRow)])
        # The row of a look of another hand's next deed.
        self.assertEqual(len(grown(EXAMPLE, 0, WEB, 0, 0, (1, 1, 1, 1, 0))[0]), 2)
        check_refused(self, BadRow, grown, [EXAMPLE, 0, WEB, 0, 0, (1, 1, 1, 1, 0)], 5, [(0, 1, 1, 1, 0)])


class Errors(unittest.TestCase):
    DEEDS = [(0, 1), (1, 1), (2, 1), (3, 1)]
    LOTS = [(edges, []), (left_out, []), (way_back, [(3, 1), (0, 1)]), (sequence_of, []), (is_sequence, [DEEDS])]
    BEGUN = [(led_along, [DEEDS]), (state_of, []), (answers_due, []), (is_borne, []), (grown, [4, 4, (1, 0, 1, 1, 0)])]

    def test_tables_that_are_not_served(self):
        for call, rest in self.LOTS:
            self.check_not_served(call, [SWAP, ((), ()), *rest], (0, 0))
        for call, rest in self.BEGUN:
            self.check_not_served(call, [SWAP, 0, ((), ()), *rest], (0, 0))
        # Deeds 0 and 1 commute, 1 and 2 do not.
        open_one = (((0, 0), (1, 0)), ((1, 0), (0, 0)), ((1, 0), (1, 1)))
        self.check_not_served(edges, [open_one, ((), ())], (1, 2))
        self.check_not_served(edges, [(((1, 0), (0, 1)),), ((), ())], (0, 0))

    def check_not_served(self, call, args, pair):
        with self.assertRaises(NotServed) as caught:
            call(*args)
        self.assertEqual((caught.exception.one, caught.exception.other), pair)

    def test_lots_and_tables(self):
        for call, rest in self.LOTS:
            args = [EXAMPLE, WEB, *rest]
            check_refused(self, BadTable, call, args, 0, NO_TABLE)
            check_refused(self, BadLot, call, args, 1, [*NO_LOT, *bends(WEB), sees_all(61)])
            check_sequence(self, call, args, [(0, None, BadTable), (0, SWAP, NotServed), (1, None, BadLot)])

    def test_begins(self):
        for call, rest in self.BEGUN:
            args = [EXAMPLE, 2, WEB, *rest]
            check_refused(self, BadTable, call, args, 0, NO_TABLE)
            check_refused(self, BadState, call, args, 1, NO_STATE)
            check_refused(self, BadLot, call, args, 2, [*NO_LOT, *bends(WEB), sees_all(61)])
            check_sequence(self, call, args, [(0, None, BadTable), (0, SWAP, NotServed), (1, True, BadState), (2, None, BadLot)])
        check_sequence(self, led_along, [EXAMPLE, 2, WEB, self.DEEDS], [(2, None, BadLot), (3, self.DEEDS[::-1], BadSequence)])

    def test_bad_edge_and_not_bad_pair(self):
        args = [EXAMPLE, WEB, (3, 1), (0, 1)]
        odd = [*odd_values(), (), (0,), (0, 0), (3, 2), (5, 1), (-1, 1), (3, 1, 1), [3, 1], (3, True), (GREATEST, 1), 5]
        check_refused(self, BadEdge, way_back, args, 2, [*odd, *bends((3, 1)), (0, 1), (2, 1)])
        check_refused(self, BadEdge, way_back, args, 3, [*odd, *bends((0, 1)), (3, 1), (2, 1), (False, 1)])
        check_sequence(self, way_back, args, [(1, None, BadLot), (2, None, BadEdge), (3, None, BadEdge)])

    def test_what_is_passed_stays_as_it_is(self):
        sequence = list(self.DEEDS)
        led_along(EXAMPLE, 2, WEB, sequence)
        is_sequence(EXAMPLE, WEB, sequence)
        self.assertEqual(sequence, self.DEEDS)


if __name__ == "__main__":
    unittest.main()
