"""Points 40 and 5: lots of heard sayings, spans and looks."""

import random
import unittest
from itertools import product

from seenatonce.errors import BadSpan, BadStore, BadTrust
from seenatonce.spans import are_parted, is_look, is_span, span_of
from tests.helpers import Book, below, bends, check_refused, check_sequence, drawn_rows, odd_values
from tests.test_sayings import NO_STORE, NO_TRUST

STORE = (2, 4, 1)
STORES = [(1, 1, 0), (2, 1, 0), (2, 4, 1), (3, 5, 1), (6, 13, 4)]


class Spans(unittest.TestCase):
    def check(self, book, value, told):
        self.assertIs(is_span(book.trust, book.store, value), told, value)

    def test_spans(self):
        for store in STORES:
            book = Book(store)
            low, high = (0,) * store[0], (2,) + (0,) * (store[0] - 1)
            last = range(store[1] - book.need, store[1])
            for span in (book.span(low, low), book.span(low, high), book.span(high, high, last), book.span(low, high, last, last)):
                self.check(book, span, True)
                self.assertIs(is_span(trust=book.trust, store=store, value=span), True)
                low_one, high_one, kept, had = span
                self.assertIs(is_look(book.trust, store, (low_one, kept, had)), low_one == high_one)

    def test_rows_of_houses_may_be_unlike(self):
        book = Book(STORE)
        kept = book.lot([(1, 0), (2, 0), (1, 3)], (), (0, 2, 3))
        had = book.lot([(1, 3), (2, 0), (0, 1)], kept, (0, 1, 2))
        for low in product(range(4), repeat=2):
            for high in product(range(5), repeat=2):
                self.check(book, (low, high, kept, had), below(low, (1, 0)) and high == (2, 3))

    def test_bent_spans_and_other_values(self):
        book = Book(STORE)
        span = book.span((0, 1), (2, 1))
        look = book.look((2, 1))
        for value in (*odd_values(), (), *bends(span), *bends(look), span[:3], span + ((),), look[:2], "span", 5):
            self.check(book, value, False)
            self.assertIs(is_look(book.trust, STORE, value), False, value)
        self.check(book, look, False)
        self.assertIs(is_look(book.trust, STORE, span), False)
        self.assertIs(is_look(trust=book.trust, store=STORE, value=look), True)

    def test_rows(self):
        book = Book(STORE)
        low, high, kept, had = book.span((0, 1), (2, 1))
        for value in ((0,), (0, 1, 0), (1, 1), (0, 2), (0, -1), (0, True)):
            self.check(book, (value, high, kept, had), False)
        for value in ((2, 1, 0), (3, 1), (2, 2), (2, 0), (1, 1), (2, True), (2,)):
            self.check(book, (low, value, kept, had), False)
        self.check(book, ((0, 0), high, kept, had), True)

    def test_low_is_below_high(self):
        book = Book(STORE)
        kept = book.lot((3, 3))
        had = book.lot((2, 3), kept)
        self.check(book, ((2, 3), (2, 3), kept, had), True)
        self.check(book, ((3, 3), (2, 3), kept, had), False)

    def test_lots_of_heard_sayings(self):
        book = Book(STORE)
        trust = book.trust
        row = (0, 0)
        low, high, kept, had = book.span(row, row)
        more = book.say(3, row)
        again = book.say(2, row)
        unsealed = trust.name(("saying", 3, 9, row, (more,) * 8, ()))
        wrong = [(), kept[:2], kept[:2] + (unsealed,), kept + (more,), kept[:2] + (again, more), kept[::-1], kept[:1] * 3,
                 kept[1:] + (again,), (kept[1], kept[0], kept[2]), list(kept), kept[:2] + (trust.name("word"),)]
        for lot in wrong:
            self.check(book, (row, row, lot, book.lot(row, lot) if trust_lets(lot) else had), False)
            self.check(book, (row, row, kept, lot), False)
        # A lot of unlike houses, ascending, is right whichever houses it is of.
        for houses in ((0, 1, 3), (0, 2, 3), (1, 2, 3), (3, 1, 0)):
            lot = book.lot(row, (), houses)
            self.check(book, (row, row, lot, book.lot(row, lot, houses)), True)

    def test_two_sayings_of_one_house(self):
        book = Book(STORE)
        row = (0, 0)
        kept = book.lot(row, (), (0, 1, 1))
        self.check(book, (row, row, kept, book.lot(row, kept)), False)
        kept = book.lot(row)
        self.check(book, (row, row, kept, book.lot(row, kept, (0, 1, 0))), False)

    def test_lots_of_what_was_had(self):
        book = Book(STORE)
        row = (0, 0)
        kept = book.lot(row)
        had = book.lot(row, kept, (0, 1, 2)) + (book.say(3, row, kept),)
        for lot in ((0, 1, 2), (0, 1, 3), (1, 2, 3)):
            self.check(book, (row, row, kept, tuple(had[k] for k in lot)), True)
        for lot in ((), (0,), (0, 1), (0, 1, 2, 3), (2, 1, 0), (1, 0, 2), (0, 0, 1), (0, 1, 1)):
            self.check(book, (row, row, kept, tuple(had[k] for k in lot)), False)
        self.check(book, (row, row, kept, had[:2] + (book.trust.name("word"),)), False)

    def test_abouts(self):
        book = Book(STORE)
        row = (1, 1)
        kept = book.lot(row)
        had = book.lot(row, kept)
        self.check(book, (row, row, kept, had), True)
        for about in ((), kept[:2], kept[1:], tuple(sorted(kept + had[:1]))):
            mixed = tuple(sorted(had[:2] + (book.say(2, row, about),)))
            self.check(book, (row, row, kept, mixed), False)
        asked = tuple(sorted(kept[:2] + (book.say(2, row, kept[:1]),)))
        self.check(book, (row, row, asked, book.lot(row, asked)), False)
        self.check(book, (row, row, had, book.lot(row, had)), False)

    def test_sayings_of_another_store(self):
        book = Book(STORE)
        span = book.span((0, 1), (2, 1))
        for store in ((2, 13, 4), (2, 5, 1), (2, 4, 0), (1, 4, 1), (3, 4, 1), (2, 3, 0)):
            self.assertIs(is_span(book.trust, store, span), store == (2, 3, 0))

    def test_errors(self):
        book = Book(STORE)
        for call, value in ((is_span, book.span((0, 0), (1, 0))), (is_look, book.look((1, 0)))):
            args = [book.trust, STORE, value]
            check_refused(self, BadTrust, call, args, 0, NO_TRUST)
            check_refused(self, BadStore, call, args, 1, NO_STORE)
            check_sequence(self, call, args, [(0, None, BadTrust), (1, None, BadStore)])

    def test_drawn_against_the_words(self):
        draw = random.Random(63)
        seen = {True: 0, False: 0}
        for _ in range(400):
            book = Book(STORE)
            kept = book.lot(drawn_rows(draw, 3, 2, 2), (), draw.choices(range(4), k=3) if draw.random() < 0.1 else (0, 1, 3))
            abouts = [kept if draw.random() < 0.9 else kept[:2] for _ in range(3)]
            rows = drawn_rows(draw, 3, 2, 2)
            had = tuple(book.say(house, row, about) for house, row, about in zip((1, 2, 3), rows, abouts))
            low = draw.choice([(0, 0), (0, 1), (1, 1)])
            high = tuple(max(items) for items in zip(*rows)) if draw.random() < 0.8 else (2, 2)
            told = [book.trust.content(name) for name in kept]
            right = len({content[1] for content in told}) == 3 and all(below(low, content[3]) for content in told)
            right = right and below(low, high) and abouts == [kept] * 3
            right = right and high == tuple(max(items) for items in zip(*rows))
            self.check(book, (low, high, kept, had), right)
            seen[right] += 1
        self.assertGreater(min(seen.values()), 40)


def trust_lets(lot):
    """Whether a lot can be told on in the about of a saying: a tuple, ascending, each once."""
    return isinstance(lot, tuple) and all(one < other for one, other in zip(lot, lot[1:]))


class PartedSpans(unittest.TestCase):
    def test_span_of(self):
        book = Book(STORE)
        row, kept, had = book.look((2, 1))
        self.assertEqual(span_of((row, kept, had)), (row, row, kept, had))
        self.assertEqual(span_of(look=(row, kept, had)), (row, row, kept, had))
        self.assertIs(is_span(book.trust, STORE, span_of((row, kept, had))), True)

    def test_drawn(self):
        draw = random.Random(64)
        book = Book(STORE)
        spans = []
        for _ in range(30):
            low, high = drawn_rows(draw, 2, 2, 3)
            spans.append(book.span(low, tuple(max(items) for items in zip(low, high))))
        seen = set()
        for one, other in product(spans, repeat=2):
            told = not below(one[0], other[1]) and not below(other[0], one[1])
            self.assertIs(are_parted(book.trust, STORE, one, other), told)
            self.assertIs(are_parted(trust=book.trust, store=STORE, one=other, other=one), told)
            seen.add((told, below(one[0], other[0]) or below(other[0], one[0])))
        self.assertEqual(seen, {(True, False), (False, True), (False, False)})

    def test_looks_are_parted_exactly_if_their_rows_are(self):
        book = Book(STORE)
        looks = [book.look(row) for row in product(range(3), repeat=2)]
        for one, other in product(looks, repeat=2):
            told = not below(one[0], other[0]) and not below(other[0], one[0])
            self.assertIs(are_parted(book.trust, STORE, span_of(one), span_of(other)), told)

    def test_errors(self):
        book = Book(STORE)
        span, look = book.span((0, 1), (2, 1)), book.look((1, 1))
        args = [book.trust, STORE, span, span]
        wrong = [*odd_values(), (), look, span[:3], *bends(span)]
        check_refused(self, BadTrust, are_parted, args, 0, NO_TRUST)
        check_refused(self, BadStore, are_parted, args, 1, NO_STORE)
        check_refused(self, BadSpan, are_parted, args, 2, wrong)
        check_refused(self, BadSpan, are_parted, args, 3, wrong)
        check_sequence(self, are_parted, args, [(0, 0, BadTrust), (1, 0, BadStore), (2, 0, BadSpan)])


if __name__ == "__main__":
    unittest.main()
