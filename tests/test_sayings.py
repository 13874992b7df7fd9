"""Points 31 and 32: sayings, and papers of two of them."""

import random
import unittest
from itertools import product

from seenatonce.errors import BadSaying, BadStore, BadTrust
from seenatonce.sayings import convicted, is_paper, is_saying, paper_of
from seenatonce.trust import Trust
from tests.helpers import Book, GREATEST, below, bends, check_refused, check_sequence, odd_values

STORE = (2, 4, 1)
NO_STORE = [*odd_values(), (), (2, 3, 1), (0, 4, 1), (7, 4, 1), (2, 14, 1), [2, 4, 1], (2, 4), (2, 4, True)]
NO_TRUST = [None, True, 0, "", (), [], {}, Trust, ("name", 0), BadTrust("x")]


def by_hand():
    book = Book(STORE)
    a = book.seal(("house", 0), ("saying", 0, 1, (1, 0), (), ()))
    return book, a


def plain_paper(trust, one, other):
    """By the words of [32]."""
    _, s, n, row, past, _ = trust.content(one)
    _, t, m, high, later, _ = trust.content(other)
    if one == other or s != t:
        return None
    if n > m:
        return plain_paper(trust, other, one)
    kind = None
    if n == m:
        kind = "twice"
    elif later[n - 1] != one:
        kind = "past"
    elif not below(row, high):
        kind = "shrunk"
    return kind and (kind, *sorted((one, other)))


def drawn_sayings(draw, many):
    """Sayings of few houses with few numbers and rows, whose pasts are often those of others."""
    book = Book(STORE)
    told = []
    for _ in range(many):
        house, number = draw.randrange(2), draw.randint(1, 3)
        past = ()
        while len(past) < number - 1:
            fits = [name for name in told if book.trust.content(name)[1:3] == (house, len(past) + 1)]
            past += (draw.choice(fits if fits and draw.random() < 0.9 else told or [book.trust.name("a")]),)
        row = tuple(draw.randint(0, 1) + (number - 1) // 2 for _ in range(2))
        about = tuple(sorted(set(draw.choice(told) for _ in range(draw.randint(0, 2)) if told)))
        told.append(book.seal(("house", house), ("saying", house, number, row, past, about)))
    return book, sorted(set(told))


class Sayings(unittest.TestCase):
    def test_a_saying(self):
        book, a = by_hand()
        b = book.seal(("house", 3), ("saying", 3, 2, (GREATEST, 0), (a,), (a,)))
        for name in (a, b):
            self.assertIs(is_saying(book.trust, STORE, name), True)
            self.assertIs(is_saying(trust=book.trust, store=STORE, name=name), True)

    def test_the_past_may_hold_any_names(self):
        book, a = by_hand()
        word = book.trust.name("word")
        for past in ((a, a), (word, a), (a, word)):
            name = book.seal(("house", 1), ("saying", 1, 3, (0, 0), past, ()))
            self.assertIs(is_saying(book.trust, STORE, name), True)

    def test_written_but_not_sealed_or_sealed_by_others(self):
        book, a = by_hand()
        trust = book.trust
        name = trust.name(("saying", 1, 2, (1, 0), (a,), ()))
        self.assertIs(is_saying(trust, STORE, name), False)
        for who in (("house", 0), ("hand", 1), ("house", 2), ("hand", 0)):
            trust.seal(who, name)
            self.assertIs(is_saying(trust, STORE, name), False)
        trust.seal(("house", 1), name)
        self.assertIs(is_saying(trust, STORE, name), True)

    def test_what_is_no_saying(self):
        book, a = by_hand()
        b = book.trust.name("b")
        contents = ["saying", None, 5, (), a, ("saying", 0, 1, (1, 0), ()), ("saying", 0, 1, (1, 0), (), (), ()),
                    ("sayings", 0, 1, (1, 0), (), ()), ("sheet", 0, 1, (1, 0), (), ()), (None, 0, 1, (1, 0), (), ()),
                    ("saying", -1, 1, (1, 0), (), ()), ("saying", 4, 1, (1, 0), (), ()), ("saying", "0", 1, (1, 0), (), ()),
                    ("saying", 0, 0, (1, 0), (), ()), ("saying", 0, -1, (1, 0), (), ()), ("saying", 0, "1", (1, 0), (), ()),
                    ("saying", 0, None, (1, 0), (), ()), ("saying", 0, 1, (1,), (), ()), ("saying", 0, 1, (1, 0, 0), (), ()),
                    ("saying", 0, 1, (1, -1), (), ()), ("saying", 0, 1, (1, "0"), (), ()), ("saying", 0, 1, None, (), ()),
                    ("saying", 0, 1, ((1,), 0), (), ()), ("saying", 0, 1, (1, 0), (a,), ()), ("saying", 0, 2, (1, 0), (), ()),
                    ("saying", 0, 2, (1, 0), (a, b), ()), ("saying", 0, 2, (1, 0), (1,), ()), ("saying", 0, 2, (1, 0), a, ()),
                    ("saying", 0, 2, (1, 0), ((a,),), ()), ("saying", 0, 3, (1, 0), a, ()), ("saying", 0, 1, (1, 0), None, ()),
                    ("saying", 0, 1, (1, 0), (), (a, a)), ("saying", 0, 1, (1, 0), (), (b, a)), ("saying", 0, 1, (1, 0), (), a),
                    ("saying", 0, 1, (1, 0), (), (a, 1)), ("saying", 0, 1, (1, 0), (), ((a,),)),
                    ("saying", 0, 1, (1, 0), (), None), ("saying", 0, 1, (1, 0), (), (("name", "0"),))]
        for content in contents:
            name = book.trust.name(content)
            for house in range(5):
                book.trust.seal(("house", house), name)
            self.assertIs(is_saying(book.trust, STORE, name), False, content)
        for content in (("saying", 0, 1, (1, 0), (), (a, b)), ("saying", 3, 3, (0, 0), (b, a), ())):
            self.assertIs(is_saying(book.trust, STORE, book.seal(("house", content[1]), content)), True)

    def test_other_values(self):
        book, a = by_hand()
        for value in (*odd_values(), *bends(a), (), ("name", 1), ("name", 5), book.trust.content(a), 0):
            self.assertIs(is_saying(book.trust, STORE, value), False, value)

    def test_the_store_tells_hands_and_houses(self):
        book = Book((2, 4, 1))
        a = book.seal(("house", 3), ("saying", 3, 1, (1, 0), (), ()))
        for store, told in (((2, 4, 1), True), ((2, 13, 0), True), ((2, 3, 0), False), ((1, 4, 1), False), ((3, 4, 1), False)):
            self.assertIs(is_saying(book.trust, store, a), told)

    def test_errors(self):
        book, a = by_hand()
        args = [book.trust, STORE, a]
        check_refused(self, BadTrust, is_saying, args, 0, NO_TRUST)
        check_refused(self, BadStore, is_saying, args, 1, NO_STORE)
        check_sequence(self, is_saying, args, [(0, None, BadTrust), (1, None, BadStore)])


class Papers(unittest.TestCase):
    def test_by_hand(self):
        book, a = by_hand()
        trust = book.trust
        b = book.seal(("house", 0), ("saying", 0, 2, (0, 0), (a,), ()))
        self.assertEqual(paper_of(trust, STORE, a, b), ("shrunk", a, b))
        self.assertEqual(paper_of(trust=trust, store=STORE, one=b, other=a), ("shrunk", a, b))
        c = book.seal(("house", 0), ("saying", 0, 2, (1, 2), (a,), ()))
        self.assertIsNone(paper_of(trust, STORE, a, c))
        d = book.seal(("house", 0), ("saying", 0, 1, (0, 0), (), ()))
        self.assertEqual(paper_of(trust, STORE, a, d), ("twice", a, d))
        self.assertIsNone(paper_of(trust, STORE, a, book.seal(("house", 0), ("saying", 0, 1, (1, 0), (), ()))))

    def test_names_are_told_in_their_own_sequence(self):
        # The saying with the greater number has the lesser name.
        book, a = by_hand()
        later = book.seal(("house", 1), ("saying", 1, 2, (0, 0), (a,), ()))
        first = book.seal(("house", 1), ("saying", 1, 1, (0, 0), (), ()))
        self.assertEqual(paper_of(book.trust, STORE, first, later), ("past", later, first))
        self.assertEqual(paper_of(book.trust, STORE, later, first), ("past", later, first))
        self.assertIs(is_paper(book.trust, STORE, ("past", later, first)), True)
        self.assertIs(is_paper(book.trust, STORE, ("past", first, later)), False)

    def test_the_first_kind_that_is_so(self):
        book, a = by_hand()
        first = book.seal(("house", 0), ("saying", 0, 1, (0, 3), (), ()))
        self.assertEqual(paper_of(book.trust, STORE, a, first)[0], "twice")
        second = book.seal(("house", 0), ("saying", 0, 2, (0, 0), (first,), ()))
        self.assertEqual(paper_of(book.trust, STORE, a, second)[0], "past")
        self.assertEqual(paper_of(book.trust, STORE, first, second)[0], "shrunk")

    def test_a_past_with_a_saying_of_another_house(self):
        book, a = by_hand()
        of_other = book.seal(("house", 1), ("saying", 1, 1, (1, 0), (), ()))
        second = book.seal(("house", 0), ("saying", 0, 2, (1, 0), (of_other,), ()))
        self.assertEqual(paper_of(book.trust, STORE, a, second), ("past", a, second))
        self.assertIsNone(paper_of(book.trust, STORE, of_other, second))
        third = book.seal(("house", 0), ("saying", 0, 3, (1, 0), (a, a), ()))
        self.assertEqual(paper_of(book.trust, STORE, second, third), ("past", second, third))
        self.assertIsNone(paper_of(book.trust, STORE, a, third))

    def test_one_saying_and_two_houses(self):
        book, a = by_hand()
        b = book.seal(("house", 1), ("saying", 1, 1, (0, 0), (), ()))
        self.assertIsNone(paper_of(book.trust, STORE, a, a))
        self.assertIsNone(paper_of(book.trust, STORE, a, b))
        self.assertIsNone(paper_of(book.trust, STORE, b, a))

    def test_drawn(self):
        draw = random.Random(61)
        kinds = {}
        for _ in range(40):
            book, told = drawn_sayings(draw, 8)
            trust = book.trust
            for one, other in product(told, repeat=2):
                paper = paper_of(trust, STORE, one, other)
                self.assertEqual(paper, plain_paper(trust, one, other))
                kind = paper and paper[0]
                kinds[kind] = kinds.get(kind, 0) + 1
                for word in ("twice", "past", "shrunk", None, "other"):
                    value = (word, one, other)
                    self.assertIs(is_paper(trust, STORE, value), value == paper)
                if (kind, one, other) == paper:
                    self.assertEqual(convicted(trust, STORE, paper), trust.content(one)[1])
        self.assertGreater(min(kinds[kind] for kind in ("twice", "past", "shrunk", None)), 20)

    def test_a_house_that_keeps_to_its_rules_is_never_convicted(self):
        draw = random.Random(62)
        for _ in range(20):
            book, row = Book(STORE), (0, 0)
            told = []
            for _ in range(8):
                row = tuple(item + draw.randint(0, 1) for item in row)
                told.append(book.say(1, row, tuple(told[:draw.randint(0, 2)])))
            for one, other in product(told, repeat=2):
                self.assertIsNone(paper_of(book.trust, STORE, one, other))

    def test_paper_of_errors(self):
        book, a = by_hand()
        unsealed = book.trust.name(("saying", 1, 1, (0, 0), (), ()))
        args = [book.trust, STORE, a, a]
        wrong = [*odd_values(), *bends(a), (), unsealed, ("name", 9), book.trust.name("word"), book.trust.content(a)]
        check_refused(self, BadTrust, paper_of, args, 0, NO_TRUST)
        check_refused(self, BadStore, paper_of, args, 1, NO_STORE)
        check_refused(self, BadSaying, paper_of, args, 2, wrong)
        check_refused(self, BadSaying, paper_of, args, 3, wrong)
        check_sequence(self, paper_of, args, [(0, 0, BadTrust), (1, 0, BadStore), (2, 0, BadSaying)])

    def test_is_paper_and_convicted(self):
        book, a = by_hand()
        trust = book.trust
        b = book.seal(("house", 0), ("saying", 0, 2, (0, 0), (a,), ()))
        paper = ("shrunk", a, b)
        self.assertIs(is_paper(trust=trust, store=STORE, value=paper), True)
        self.assertEqual(convicted(trust=trust, store=STORE, paper=paper), 0)
        wrong = [*odd_values(), *bends(paper), (), ("shrunk", b, a), ("past", a, b), ("shrunk", a, a), ("shrunk", a),
                 paper + (a,), (None, a, a), (None, a, b), "shrunk", (["shrunk"], a, b), None]
        for value in wrong:
            self.assertIs(is_paper(trust, STORE, value), False, value)
        check_refused(self, BadSaying, convicted, [trust, STORE, paper], 2, wrong)
        for call in (is_paper, convicted):
            check_refused(self, BadTrust, call, [trust, STORE, paper], 0, NO_TRUST)
            check_refused(self, BadStore, call, [trust, STORE, paper], 1, NO_STORE)
        check_sequence(self, convicted, [trust, STORE, paper], [(0, 0, BadTrust), (1, 0, BadStore), (2, 0, BadSaying)])

    def test_the_house_that_is_convicted(self):
        book = Book(STORE)
        for house in range(4):
            names = [book.seal(("house", house), ("saying", house, 1, row, (), ())) for row in ((0, 0), (1, 0))]
            self.assertEqual(convicted(book.trust, STORE, ("twice", *names)), house)


if __name__ == "__main__":
    unittest.main()
