"""Points 90 and 91: the court, and spans on one line; with points 31, 32 and 40."""

import random
import unittest
from itertools import combinations, product

from seenatonce.court import named, spans_in_line, went_back
from seenatonce.errors import BadHeard, BadRow, BadSpan, BadStore, BadTrust
from seenatonce.rows import joined
from seenatonce.sayings import convicted, is_paper
from seenatonce.spans import are_parted, is_span
from tests.helpers import Book, below, bends, check_refused, check_sequence, odd_values
from tests.test_sayings import NO_STORE, NO_TRUST, plain_paper

STORE = (2, 4, 1)


def papers_by_words(trust, names):
    """For each house, ascending, the paper of the least pair of these sayings, each two looked at."""
    found = {}
    for one, other in combinations(sorted(set(names)), 2):
        paper = plain_paper(trust, one, other)
        if paper:
            found.setdefault(trust.content(one)[1], paper)
    return tuple(sorted(found.items()))


def house_of(trust, name):
    return trust.content(name)[1]


def saying_of(trust, house, names):
    """The saying of the house among these, None if it has none."""
    return next((name for name in names if house_of(trust, name) == house), None)


class Liars:
    """Houses that show unlike faces, each with a row that grows; a liar has a past for each face, or takes another's."""

    def __init__(self, draw, store, honest=()):
        self.draw, self.book, self.store, self.honest = draw, Book(store), store, honest
        self.rows = [[0] * store[0] for _ in range(3)]
        self.pasts = [[(), (), ()] for _ in range(store[1])]
        self.all_told = []

    def say(self, house, face, about):
        draw = self.draw
        face = 0 if house in self.honest else face
        row = list(self.rows[face])
        past = self.pasts[house][face]
        if house not in self.honest and draw.random() < 0.2:
            past = draw.choice(self.pasts[house])
            row[draw.randrange(len(row))] = draw.randint(0, 2)
        name = self.book.seal(("house", house), ("saying", house, len(past) + 1, tuple(row), past, about))
        self.pasts[house][face] = past + (name,)
        return name

    def lot(self, face, about=()):
        if self.draw.random() < 0.6:
            self.rows[face][(face + (self.draw.random() < 0.2)) % self.store[0]] += 1
        houses = self.draw.sample(range(self.store[1]), self.book.need)
        return tuple(sorted(self.say(house, face, about) for house in houses))

    def told(self, names):
        return [self.book.trust.content(name)[3] for name in names]

    def spans(self, many):
        """Spans of drawn sayings, told one in another."""
        draw = self.draw
        kept_lots, spans = [], []
        while len(spans) < many:
            face = draw.randrange(3)
            if not kept_lots or draw.random() < 0.6:
                kept_lots.append((face, self.lot(face)))
            face, kept = draw.choice(kept_lots[-3:])
            had = self.lot(draw.choice((face, face, face, 0)), kept)
            low = tuple(draw.choice((min(items), min(items), draw.randint(0, min(items)))) for items in zip(*self.told(kept)))
            high = joined(self.told(had))
            if below(low, high):
                spans.append((low, high, kept, had))
            self.all_told.append((low, high, kept, had))
        return spans


def lied_spans(seed, many, honest=(), all_told=False):
    """Books with drawn spans in them, over a few stores; with all that is told so, also what lacks the row kept."""
    for k in range(many):
        draw = random.Random(1000 * seed + k)
        store = draw.choice(((1, 1, 0), (2, 1, 0), (2, 2, 0), (2, 4, 1), (3, 4, 1), (2, 5, 1), (2, 7, 2)))
        liars = Liars(draw, store, honest)
        spans = liars.spans(draw.randint(2, 6))
        yield draw, store, liars.book.trust, liars.all_told if all_told else spans


def by_hand(second=(0, 1)):
    """The example of [91]: house 0 alone, its four sayings, and the two spans."""
    book = Book((2, 1, 0))
    p = book.say(0, (1, 0))
    q = book.say(0, (1, 0), (p,))
    r = book.say(0, second)
    s = book.say(0, second, (r,))
    return book.trust, (p, q, r, s), [((1, 0), (1, 0), (p,), (q,)), (second, second, (r,), (s,))]


class Named(unittest.TestCase):
    def test_by_hand(self):
        trust, (p, q, r, s), spans = by_hand()
        self.assertEqual(named(trust, (2, 1, 0), *spans), ((0, ("shrunk", p, r)),))
        self.assertEqual(named(trust=trust, store=(2, 1, 0), one=spans[1], other=spans[0]), ((0, ("shrunk", p, r)),))
        self.assertEqual(went_back(trust=trust, store=(2, 1, 0), row=(0, 0), kept=(p,), had=(q,)), ())
        self.assertEqual(went_back(trust, (2, 1, 0), (0, 1), (r,), (s,)), ())

    def test_any_two_sayings_of_either_span(self):
        # Of one span alone: house 0 tells two sayings with one number.
        book = Book((1, 1, 0))
        a = book.seal(("house", 0), ("saying", 0, 1, (0,), (), ()))
        b = book.seal(("house", 0), ("saying", 0, 1, (0,), (), (a,)))
        span = ((0,), (0,), (a,), (b,))
        self.assertEqual(named(book.trust, (1, 1, 0), span, span), ((0, ("twice", a, b)),))
        c = book.seal(("house", 0), ("saying", 0, 2, (0,), (b,), ()))
        d = book.seal(("house", 0), ("saying", 0, 3, (0,), (a, c), (c,)))
        other = ((0,), (0,), (c,), (d,))
        self.assertEqual(named(book.trust, (1, 1, 0), other, other), ())
        # The least pair is told: (a, b) ahead of (a, c) and (b, d).
        self.assertEqual(named(book.trust, (1, 1, 0), other, span), ((0, ("twice", a, b)),))

    def test_honest_spans_name_nobody(self):
        book = Book(STORE)
        one, other = book.span((0, 0), (1, 1)), book.span((1, 1), (2, 3), (0, 1, 3), (1, 2, 3))
        self.assertEqual(named(book.trust, STORE, one, other), ())

    def test_drawn(self):
        seen = 0
        for _, store, trust, spans in lied_spans(901, 120):
            for one, other in product(spans, repeat=2):
                told = named(trust, store, one, other)
                self.assertEqual(told, papers_by_words(trust, one[2] + one[3] + other[2] + other[3]))
                for house, paper in told:
                    self.assertIs(is_paper(trust, store, paper), True)
                    self.assertEqual(convicted(trust, store, paper), house)
                seen += len(told)
        self.assertGreater(seen, 500)

    def test_heart(self):
        parted = 0
        for _, store, trust, spans in lied_spans(902, 500):
            for one, other in combinations(spans, 2):
                if are_parted(trust, store, one, other):
                    parted += 1
                    houses = {house for house, _ in named(trust, store, one, other)}
                    crossing = [{house_of(trust, name) for name in kept} & {house_of(trust, name) for name in had}
                                for kept, had in ((one[2], other[3]), (other[2], one[3]))]
                    self.assertTrue(crossing[0] <= houses or crossing[1] <= houses)
                    self.assertGreaterEqual(len(houses), store[1] - 2 * store[2])
        self.assertGreater(parted, 60)

    def test_a_house_that_keeps_to_its_rules_is_not_named(self):
        for _, store, trust, spans in lied_spans(903, 60, (0, 2)):
            for one, other in combinations(spans, 2):
                self.assertTrue(all(house not in (0, 2) for house, _ in named(trust, store, one, other)))

    def test_errors(self):
        book = Book(STORE)
        span, look = book.span((0, 1), (2, 1)), book.look((1, 1))
        args = [book.trust, STORE, span, span]
        wrong = [*odd_values(), (), look, span[:3], list(span), *bends(span)]
        check_refused(self, BadTrust, named, args, 0, NO_TRUST)
        check_refused(self, BadStore, named, args, 1, NO_STORE)
        check_refused(self, BadSpan, named, args, 2, wrong)
        check_refused(self, BadSpan, named, args, 3, wrong)
        check_sequence(self, named, args, [(0, 0, BadTrust), (1, 0, BadStore), (2, 0, BadSpan), (3, 0, BadSpan)])


class WentBack(unittest.TestCase):
    def test_drawn(self):
        back = seen = 0
        for _, store, trust, spans in lied_spans(904, 150, (), True):
            for low, high, kept, had in spans:
                row = tuple(min(items) for items in zip(*(trust.content(name)[3] for name in kept)))
                told = went_back(trust, store, row, kept, had)
                self.assertEqual(told, papers_by_words(trust, kept + had))
                self.assertEqual(went_back(trust, store, low, kept, had), told)
                seen += len(told)
                if not below(row, high):
                    back += 1
                    both = {house_of(trust, name) for name in kept} & {house_of(trust, name) for name in had}
                    self.assertTrue(both <= {house for house, _ in told})
                    self.assertGreaterEqual(len(both), store[1] - 2 * store[2])
        self.assertGreater(min(back, seen), 30)

    def test_errors(self):
        book = Book(STORE)
        low, _, kept, had = book.span((0, 1), (2, 1))
        other = book.lot((2, 2))
        args = [book.trust, STORE, low, kept, had]
        check_refused(self, BadTrust, went_back, args, 0, NO_TRUST)
        check_refused(self, BadStore, went_back, args, 1, NO_STORE)
        check_refused(self, BadRow, went_back, args, 2, [*odd_values(), (), (0,), (0, 1, 0), [0, 1], (0, True), (0, -1), *bends((0, 1))])
        # Rows that are not below the row of each of kept.
        check_refused(self, BadHeard, went_back, args, 2, [(1, 1), (0, 2)])
        wrong = [*odd_values(), (), kept[:2], kept[::-1], list(kept), kept[:2] + kept[:1], *bends(kept)]
        check_refused(self, BadHeard, went_back, args, 3, [*wrong, had, other])
        wrong = [*odd_values(), (), had[:2], had[::-1], list(had), had[:2] + had[:1], *bends(had)]
        check_refused(self, BadHeard, went_back, args, 4, [*wrong, kept, other, book.lot((0, 1), other)])
        check_sequence(self, went_back, args, [(0, 0, BadTrust), (1, 0, BadStore), (2, 0, BadRow), (3, 0, BadHeard), (4, 0, BadHeard)])

    def test_heard_sayings_that_tell_less_than_the_row(self):
        book = Book((1, 4, 1))
        kept = book.lot([(3,), (2,), (4,)])
        had = book.lot((1,), kept)
        papers = went_back(book.trust, (1, 4, 1), (2,), kept, had)
        self.assertEqual(papers, tuple((house, ("shrunk", kept[house], had[house])) for house in range(3)))
        check_refused(self, BadHeard, went_back, [book.trust, (1, 4, 1), (2,), kept, had], 2, [(3,)])


def line_by_words(trust, spans):
    """spans_in_line by the words of [91]."""
    told = sorted(range(len(spans)), key=lambda place: (max(spans[place][2]), place))
    for j, other in enumerate(told):
        for one in told[:j]:
            if not below(spans[one][0], spans[other][1]):
                papers = []
                for name in spans[one][2]:
                    crossing = saying_of(trust, house_of(trust, name), spans[other][3])
                    if crossing:
                        papers.append((house_of(trust, name), plain_paper(trust, name, crossing)))
                return ("lied", one, other, tuple(sorted(papers)))
    lows = [spans[place][0] for place in told]
    return ("line", tuple(told), tuple(joined(lows[:k + 1]) for k in range(len(lows))))


class InLine(unittest.TestCase):
    def test_by_hand(self):
        trust, (p, _, _, s), spans = by_hand()
        self.assertEqual(spans_in_line(trust, (2, 1, 0), spans), ("lied", 0, 1, ((0, ("shrunk", p, s)),)))
        self.assertEqual(spans_in_line(trust, (2, 1, 0), spans[::-1]), ("lied", 1, 0, ((0, ("shrunk", p, s)),)))
        trust, _, spans = by_hand((1, 1))
        self.assertEqual(spans_in_line(trust=trust, store=(2, 1, 0), spans=spans), ("line", (0, 1), ((1, 0), (1, 1))))
        self.assertEqual(spans_in_line(trust, (2, 1, 0), tuple(spans[::-1])), ("line", (1, 0), ((1, 0), (1, 1))))

    def test_no_spans_and_one(self):
        book = Book(STORE)
        self.assertEqual(spans_in_line(book.trust, STORE, []), ("line", (), ()))
        self.assertEqual(spans_in_line(book.trust, STORE, ()), ("line", (), ()))
        span = book.span((0, 1), (2, 1))
        self.assertEqual(spans_in_line(book.trust, STORE, [span]), ("line", (0,), ((0, 1),)))

    def test_spans_told_at_once_go_by_their_places(self):
        # The same kept: of equal ones the places in the list tell the sequence.
        book = Book((2, 4, 1))
        kept = book.lot((2, 2))
        spans = [(low, (2, 2), kept, book.lot((2, 2), kept)) for low in ((0, 1), (1, 0), (2, 2))]
        self.assertEqual(spans_in_line(book.trust, STORE, spans), ("line", (0, 1, 2), ((0, 1), (1, 1), (2, 2))))
        self.assertEqual(spans_in_line(book.trust, STORE, spans[::-1]), ("line", (0, 1, 2), ((2, 2), (2, 2), (2, 2))))
        self.assertEqual(spans_in_line(book.trust, STORE, spans[:1] * 3), ("line", (0, 1, 2), ((0, 1),) * 3))

    def test_the_sequence_told_is_not_that_of_the_list(self):
        book = Book(STORE)
        early, late = book.span((0, 0), (1, 1)), book.span((0, 1), (3, 3))
        self.assertEqual(spans_in_line(book.trust, STORE, [late, early]), ("line", (1, 0), ((0, 0), (0, 1))))

    def test_the_first_pair_that_is_wrong(self):
        # Houses that forget all each time: every span comes ahead of every later one wrongly.
        book = Book((3, 1, 0))
        spans = [book.span(row, row) for row in ((1, 0, 0), (0, 1, 0), (0, 0, 1))]
        told = [spans_in_line(book.trust, (3, 1, 0), [spans[k] for k in places])[:3] for places in ((0, 1, 2), (1, 2, 0), (2, 0, 1), (2, 1))]
        self.assertEqual(told, [("lied", 0, 1), ("lied", 2, 0), ("lied", 1, 2), ("lied", 1, 0)])
        # Of the last one two come ahead wrongly: that which was told first is named.
        spans = [book.span(row, row) for row in ((5, 0, 0), (5, 1, 0), (0, 5, 1))]
        self.assertEqual(spans_in_line(book.trust, (3, 1, 0), spans)[:3], ("lied", 0, 2))

    def test_drawn(self):
        seen = {"line": 0, "lied": 0}
        for draw, store, trust, spans in [*lied_spans(905, 150), *lied_spans(906, 60, range(13))]:
            for lot in (spans, spans[:2], draw.sample(spans, len(spans)), spans[:1] + spans):
                told = spans_in_line(trust, store, lot)
                self.assertEqual(told, line_by_words(trust, lot))
                self.assertEqual(spans_in_line(trust, store, tuple(lot)), told)
                seen[told[0]] += 1
                if told[0] == "lied":
                    self.check_lied(trust, store, told[3])
                else:
                    self.check_line(lot, *told[1:])
        self.assertGreater(min(seen.values()), 100)

    def check_lied(self, trust, store, papers):
        for house, paper in papers:
            self.assertIs(is_paper(trust, store, paper), True)
            self.assertEqual(convicted(trust, store, paper), house)
        self.assertGreaterEqual(len(papers), store[1] - 2 * store[2])

    def check_line(self, spans, places, rows):
        self.assertEqual(sorted(places), list(range(len(spans))))
        for place, row in zip(places, rows):
            self.assertTrue(below(spans[place][0], row) and below(row, spans[place][1]))
        self.assertTrue(all(below(one, other) for one, other in zip(rows, rows[1:])))

    def test_houses_that_keep_to_their_rules_make_a_line(self):
        for _, store, trust, spans in lied_spans(907, 60, range(13)):
            self.assertEqual(spans_in_line(trust, store, spans)[0], "line")

    def test_what_is_passed_stays_as_it_is(self):
        trust, _, spans = by_hand()
        held = list(spans)
        spans_in_line(trust, (2, 1, 0), spans)
        self.assertEqual(spans, held)
        self.assertTrue(all(is_span(trust, (2, 1, 0), span) for span in spans))

    def test_errors(self):
        book = Book(STORE)
        span, look = book.span((0, 1), (2, 1)), book.look((1, 1))
        args = [book.trust, STORE, [span]]
        check_refused(self, BadTrust, spans_in_line, args, 0, NO_TRUST)
        check_refused(self, BadStore, spans_in_line, args, 1, NO_STORE)
        odd = [value for value in odd_values() if value != []]
        wrong = [*odd, span, look, {span: 0}, {0: span}, 5, *[[span, value] for value in (*odd_values(), look, list(span), *bends(span))]]
        check_refused(self, BadSpan, spans_in_line, args, 2, wrong)
        check_sequence(self, spans_in_line, args, [(0, 0, BadTrust), (1, 0, BadStore), (2, 0, BadSpan)])


if __name__ == "__main__":
    unittest.main()
