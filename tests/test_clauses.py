"""Point 110, with points 31, 32, 40 and 90: near spans that are right but for one clause."""

import unittest
from itertools import combinations

from seenatonce.clauses import clauses, parted_without
from seenatonce.court import named
from seenatonce.errors import BadClause, BadStore, BadTrust
from seenatonce.sayings import is_saying
from seenatonce.spans import is_span
from seenatonce.trust import Trust
from tests.helpers import Book, below, check_refused, check_sequence, odd_values
from tests.test_sayings import NO_STORE, NO_TRUST

NAMES = ("enough", "kept", "told", "joined", "twice", "past", "shrunk")
STORES = [(hands, houses, lies) for hands in range(2, 7) for houses in range(2, 14) for lies in range(5) if 3 * lies < houses]


def broken_clauses(trust, store, span):
    """The clauses of [110] that a near span breaks."""
    low, high, kept, had = span
    need = store[1] - store[2]
    rows = [trust.content(name)[3] for name in had]
    clause = {"enough": len(kept) == need == len(had), "kept": all(below(low, trust.content(name)[3]) for name in kept),
              "told": all(trust.content(name)[5] == kept for name in had),
              "joined": tuple(max(items) for items in zip(*rows)) == high}
    return {name for name, held in clause.items() if not held}


def kinds_of(trust, one, other):
    """The kinds of papers that two unlike sayings of one house make."""
    one, other = sorted((one, other), key=lambda name: trust.content(name)[2])
    _, _, number, row, _, _ = trust.content(one)
    _, _, later, above, past, _ = trust.content(other)
    if number == later:
        return {"twice"}
    return ({"past"} if past[number - 1] != one else set()) | ({"shrunk"} if not below(row, above) else set())


def convicted_without(trust, spans, clause):
    """The houses of which two sayings in the spans make a paper of any kind, the clause not being looked for."""
    names = sorted({name for _, _, kept, had in spans for name in kept + had})
    houses = set()
    for one, other in combinations(names, 2):
        if trust.content(one)[1] == trust.content(other)[1] and kinds_of(trust, one, other) - {clause}:
            houses.add(trust.content(one)[1])
    return houses


class Clauses(unittest.TestCase):
    def test_names(self):
        self.assertEqual(clauses(), NAMES)

    def check(self, trust, store, clause):
        hands, houses, lies = store
        spans = parted_without(trust, store, clause)
        self.assertTrue(spans.__class__ is tuple and len(spans) == 2)
        for low, high, kept, had in spans:
            for row in (low, high):
                self.assertTrue(row.__class__ is tuple and len(row) == hands and all(item.__class__ is int and item >= 0 for item in row))
            self.assertTrue(below(low, high))
            for lot in (kept, had):
                self.assertTrue(lot.__class__ is tuple and lot and list(lot) == sorted(set(lot)))
                self.assertTrue(all(is_saying(trust, store, name) for name in lot))
                self.assertEqual(len({trust.content(name)[1] for name in lot}), len(lot))
            self.assertTrue(all(trust.content(name)[5] == () for name in kept))
        (low, high, _, _), (least, most, _, _) = spans
        self.assertFalse(below(low, most) or below(least, high))
        for span in spans:
            self.assertEqual(broken_clauses(trust, store, span), {clause} if clause in NAMES[:4] else set())
            self.assertEqual(is_span(trust, store, span), clause in NAMES[4:])
        self.assertLess(len(convicted_without(trust, spans, clause)), houses - 2 * lies)
        if clause in NAMES[4:]:
            # With the kind of papers the court names enough.
            self.assertGreaterEqual(len(named(trust, store, *spans)), houses - 2 * lies)

    def test_each_clause_in_each_store(self):
        for store in STORES:
            for clause in NAMES:
                with self.subTest(store=store, clause=clause):
                    self.check(Trust(), store, clause)

    def test_in_one_book(self):
        # Whatever was named ahead, also by the same calls.
        for store in ((2, 2, 0), (3, 4, 1)):
            book = Book(store)
            book.look((1,) * store[0])
            book.say(0, (0,) * store[0])
            for clause in NAMES * 2 + NAMES[::-1]:
                self.check(book.trust, store, clause)

    def test_equal_books_have_equal_results(self):
        for clause in NAMES:
            self.assertEqual(parted_without(Trust(), (3, 7, 2), clause), parted_without(trust=Trust(), store=(3, 7, 2), clause=clause))

    def test_errors(self):
        args = [Trust(), (2, 4, 1), "kept"]
        check_refused(self, BadTrust, parted_without, args, 0, NO_TRUST)
        check_refused(self, BadStore, parted_without, args, 1, [*NO_STORE, (1, 4, 1), (1, 1, 0), (2, 1, 0), (6, 1, 0), (1, 13, 4)])
        wrong = [*odd_values(), 0, 6, "Kept", "kept ", "all", ("kept",), ["kept"], b"kept", NAMES]
        check_refused(self, BadClause, parted_without, args, 2, wrong)
        check_sequence(self, parted_without, args, [(0, None, BadTrust), (1, (1, 4, 1), BadStore), (2, None, BadClause)])
        self.assertEqual(args[0].size(), 0)


if __name__ == "__main__":
    unittest.main()
