"""Points 100 and 101, with 31, 32 and 40: what is sure behind known sayings, and what later looks may miss."""

import random
import unittest
from itertools import combinations, product

from seenatonce.errors import BadLook, BadRow, BadSaying, BadStore, BadTrust, MoreLie
from seenatonce.sayings import paper_of
from seenatonce.spans import is_look
from seenatonce.sure import is_behind, is_miss, keepers_of, liars_in, miss_of, sure_row
from tests.helpers import Book, below, bends, check_refused, check_sequence, odd_values
from tests.test_sayings import NO_STORE, NO_TRUST

STORE = (2, 4, 1)


def told(trust, name):
    return trust.content(name)


def is_paper_by_words(trust, one, other):
    """Whether two sayings convict a house, by the words of [32]."""
    one, other = sorted((one, other), key=lambda name: told(trust, name)[2])
    _, house, number, row, _, _ = told(trust, one)
    _, same, later, above, past, _ = told(trust, other)
    if one == other or house != same:
        return False
    return number == later or past[number - 1] != one or not below(row, above)


def liars_by_words(trust, known):
    return tuple(sorted({told(trust, one)[1] for one, other in combinations(known, 2) if is_paper_by_words(trust, one, other)}))


def keepers_by_words(trust, store, known, row):
    honest = [house for house in range(store[1]) if house not in liars_by_words(trust, known)]
    return tuple(tuple(house for house in honest if row[hand] == 0 or any(
        told(trust, name)[1] == house and told(trust, name)[3][hand] >= row[hand] for name in known)) for hand in range(store[0]))


def all_misses(trust, store, known, row):
    """A walk over all lots of at most lies houses, and all lots of houses that are heard."""
    _, houses, lies = store
    convicted, keepers = liars_by_words(trust, known), keepers_by_words(trust, store, known, row)
    for many in range(lies + 1):
        for liars in combinations(range(houses), many):
            if set(convicted) <= set(liars):
                for heard in combinations(range(houses), houses - lies):
                    for hand in range(store[0]):
                        if not set(keepers[hand]) & set(heard) - set(liars):
                            yield (hand, liars, heard)


class Talk(Book):
    """A book in which houses also go back and fork."""

    def lie(self, house, number, row, past, about=()):
        return self.seal(("house", house), ("saying", house, number, row, past, about))

    def fork(self, house, row):
        """A saying with the number of one that the house has said already, or one without its past."""
        past = self.pasts[house]
        return self.lie(house, max(1, len(past)), row, past[:max(0, len(past) - 1)])

    def look_behind(self, known, miss):
        """The look of the HEART: the houses heard say a row that lacks the sheet, those that lie with any past."""
        _, liars, heard = miss
        told = {house: sorted((self.trust.content(name)[2:4], name) for name in known if self.trust.content(name)[1] == house) for house in heard}
        low = tuple(max(items) for items in zip((0,) * self.store[0], *(told[house][-1][0][1] for house in heard if told[house] and house not in liars)))
        pasts = {}
        for house in heard:
            if told[house] and house not in liars:
                pasts[house] = self.trust.content(told[house][-1][1])[4] + (told[house][-1][1],)
            else:
                pasts[house] = (self.trust.name(None),) * (told[house][-1][0][0] if told[house] else 0)
        kept = tuple(sorted(self.lie(house, len(pasts[house]) + 1, low, pasts[house]) for house in heard))
        pasts = {self.trust.content(name)[1]: self.trust.content(name)[4] + (name,) for name in kept}
        return (low, kept, tuple(sorted(self.lie(house, len(pasts[house]) + 1, low, pasts[house], kept) for house in heard)))


class Example(unittest.TestCase):
    def test_by_hand(self):
        book = Talk(STORE)
        known = [book.say(0, (1, 0)), book.say(1, (1, 0))]
        args = (book.trust, STORE, known, (1, 0))
        self.assertIs(is_miss(*args, (0, (0,), (0, 2, 3))), True)
        self.assertIn(miss_of(*args), list(all_misses(*args)))
        self.assertEqual(sure_row(book.trust, STORE, known), (0, 0))
        known.append(book.say(2, (1, 0)))
        self.assertIsNone(miss_of(*args))
        self.assertEqual(sure_row(book.trust, STORE, known), (1, 0))
        self.assertIs(is_miss(*args, (0, (0,), (0, 2, 3))), False)

    def test_two_sayings_that_convict_a_third_house(self):
        book = Talk(STORE)
        known = [book.say(0, (1, 0)), book.say(1, (1, 0)), book.say(2, (1, 0)), book.fork(2, (0, 0))]
        self.assertEqual(liars_in(book.trust, STORE, known), (2,))
        self.assertIsNone(miss_of(book.trust, STORE, known, (1, 0)))
        self.assertEqual(sure_row(book.trust, STORE, known), (1, 0))
        self.assertEqual(sure_row(book.trust, STORE, known[1:]), (0, 0))

    def test_by_names(self):
        book = Talk(STORE)
        named = {"trust": book.trust, "store": STORE, "known": (book.say(0, (1, 0)),)}
        look = book.look((1, 0))
        self.assertEqual(liars_in(**named), ())
        self.assertEqual(keepers_of(**named, row=(1, 0)), ((0,), (0, 1, 2, 3)))
        self.assertIs(is_behind(**named, look=look), True)
        self.assertIs(is_miss(**named, row=(1, 0), value=miss_of(**named, row=(1, 0))), True)
        self.assertEqual(sure_row(**named), (0, 0))

    def test_nothing_is_known(self):
        for store in ((1, 1, 0), (2, 4, 1), (6, 13, 4)):
            book = Talk(store)
            no = (0,) * store[0]
            self.assertEqual(liars_in(book.trust, store, []), ())
            self.assertEqual(keepers_of(book.trust, store, (), no), (tuple(range(store[1])),) * store[0])
            self.assertEqual(keepers_of(book.trust, store, [], (1,) * store[0]), ((),) * store[0])
            self.assertIsNone(miss_of(book.trust, store, [], no))
            self.assertEqual(sure_row(book.trust, store, []), no)
            row = (0,) * (store[0] - 1) + (1,)
            self.assertIs(is_miss(book.trust, store, [], row, miss_of(book.trust, store, [], row)), True)
            self.assertIs(is_behind(book.trust, store, [], book.look(no)), True)


class Known(unittest.TestCase):
    def test_liars(self):
        book = Talk(STORE)
        first, second = book.say(0, (1, 0)), book.say(0, (1, 1))
        shrunk = book.say(0, (0, 1))
        twice = book.lie(1, 1, (0, 0), ())
        other = book.lie(1, 1, (0, 1), ())
        past = book.lie(2, 2, (0, 0), (first,))
        lost = book.lie(2, 1, (0, 0), ())
        for known, liars in (([], ()), ([first, second], ()), ([first, first], ()), ([second, shrunk], (0,)), ([shrunk, first, second], (0,)), ([first, shrunk], (0,)),
                             ([twice, other], (1,)), ([twice, first, other], (1,)), ([past, lost], (2,)), ([lost, other, past, twice, shrunk, second, lost], (0, 1, 2))):
            for value in (known, tuple(known), known[::-1]):
                self.assertEqual(liars_in(book.trust, STORE, value), liars)

    def test_several_sayings_of_one_house(self):
        book = Talk(STORE)
        known = [book.say(0, (1, 0)), book.say(0, (2, 3)), book.say(1, (0, 2)), book.say(0, (2, 3))]
        for row, keepers in (((1, 1), ((0,), (0, 1))), ((2, 2), ((0,), (0, 1))), ((3, 3), ((), (0,))), ((0, 4), ((0, 1, 2, 3), ())), ((0, 0), ((0, 1, 2, 3),) * 2)):
            for value in (known, known[::-1], known * 2):
                self.assertEqual(keepers_of(book.trust, STORE, value, row), keepers)

    def test_convicted_houses_keep_nothing(self):
        book = Talk(STORE)
        known = [book.say(house, (2, 1)) for house in range(4)] + [book.fork(3, (5, 5)), book.fork(1, (2, 0))]
        self.assertEqual(liars_in(book.trust, STORE, known), (1, 3))
        self.assertEqual(keepers_of(book.trust, STORE, known, (2, 0)), ((0, 2), (0, 2)))
        self.assertEqual(keepers_of(book.trust, STORE, known, (3, 1)), ((), (0, 2)))

    def test_looks_behind(self):
        book = Talk(STORE)
        early = book.say(0, (0, 0))
        look = book.look((0, 0), [0, 1, 2], [0, 1, 3])
        late = book.say(0, (0, 0))
        had = look[2]
        houses = {book.trust.content(name)[1]: name for name in had}
        for known, behind in (([], True), ([early], True), ([late], False), ([houses[0]], False), ([early, late], False), (look[1], True), ([houses[3]], False),
                              ([book.say(2, (1, 1))], True), ([book.lie(3, 9, (0, 0), (early,) * 8)], False), ([book.lie(1, 1, (5, 5), ())], True)):
            self.assertIs(is_behind(book.trust, STORE, known, look), behind)

    def test_drawn(self):
        draw = random.Random(1000)
        for _ in range(60):
            book, known = drawn_talk(draw, draw.choice(((2, 4, 1), (3, 4, 1), (2, 5, 1))))
            look = book.look((3,) * book.store[0], draw.sample(range(book.store[1]), book.need), draw.sample(range(book.store[1]), book.need))
            late = [book.say(draw.randrange(book.store[1]), (4,) * book.store[0]) for _ in range(draw.randint(0, 2))]
            known += draw.sample(late, draw.randint(0, len(late)))
            wanted = all(told(book.trust, name)[2] < told(book.trust, had)[2] for name in known for had in look[2]
                         if told(book.trust, name)[1] == told(book.trust, had)[1])
            self.assertIs(is_behind(book.trust, book.store, known, look), wanted)


def drawn_talk(draw, store, forks=0.1):
    """Known sayings of houses, some of which go back or fork; in any sequence, some repeated."""
    book, known = Talk(store), []
    rows = [(0,) * store[0]] * store[1]
    liars = draw.sample(range(store[1]), draw.randint(0, store[2]))
    for _ in range(draw.randint(0, 14)):
        house = draw.randrange(store[1])
        if house in liars and draw.random() < 0.5:
            known.append(book.fork(house, tuple(draw.randint(0, 3) for _ in range(store[0]))))
        else:
            rows[house] = tuple(min(3, item + draw.randint(0, 2)) for item in rows[house])
            known.append(book.say(house, rows[house]))
    known += [draw.choice(known) for _ in range(draw.randint(0, 3)) if known]
    return book, draw.sample(known, len(known))


class Sure(unittest.TestCase):
    def test_against_a_walk_over_all_lots(self):
        draw = random.Random(1010)
        seen = {"sure": 0, "miss": 0, "liars": 0}
        for _ in range(250):
            store = draw.choice(((2, 1, 0), (2, 3, 0), (1, 4, 1), (2, 4, 1), (2, 4, 1), (2, 5, 1), (3, 4, 1), (1, 7, 2)))
            book, known = drawn_talk(draw, store)
            liars = liars_by_words(book.trust, known)
            self.assertEqual(liars_in(book.trust, store, known), liars)
            seen["liars"] += bool(liars)
            sure = sure_row(book.trust, store, known)
            for row in draw.sample(list(product(range(4), repeat=store[0])), 2) + [sure] + [sure[:k] + (item + 1,) + sure[k + 1:] for k, item in enumerate(sure)]:
                self.assertEqual(keepers_of(book.trust, store, known, row), keepers_by_words(book.trust, store, known, row))
                misses = list(all_misses(book.trust, store, known, row))
                miss = miss_of(book.trust, store, known, row)
                self.assertTrue(miss in misses if misses else miss is None)
                self.assertEqual(miss is None, below(row, sure))
                for value in draw.sample(misses, min(len(misses), 5)):
                    self.assertIs(is_miss(book.trust, store, known, row, value), True)
                for value in self.near(draw, store, misses):
                    self.assertIs(is_miss(book.trust, store, known, row, value), value in misses)
                seen["miss" if misses else "sure"] += 1
        self.assertGreater(min(seen.values()), 30)

    def near(self, draw, store, misses):
        _, houses, lies = store
        for _ in range(6):
            liars = tuple(sorted(draw.sample(range(houses), min(houses, draw.randint(0, lies + 1)))))
            heard = tuple(sorted(draw.sample(range(houses), draw.choice((houses - lies, houses - lies, min(houses, houses - lies + 1))))))
            yield (draw.randrange(store[0]), liars, heard)

    def test_for_each_miss_there_is_a_look_behind_that_lacks_the_sheet(self):
        draw = random.Random(1011)
        many = 0
        for _ in range(120):
            store = draw.choice(((2, 1, 0), (2, 3, 0), (2, 4, 1), (2, 5, 1), (3, 4, 1), (2, 7, 2)))
            book, known = drawn_talk(draw, store)
            row = tuple(draw.randint(0, 3) for _ in range(store[0]))
            miss = miss_of(book.trust, store, known, row)
            if miss is None:
                continue
            many += 1
            hand, liars, heard = miss
            look = book.look_behind(known, miss)
            self.assertIs(is_look(book.trust, store, look), True)
            self.assertIs(is_behind(book.trust, store, known, look), True)
            self.assertLess(look[0][hand], row[hand])
            names = {name for name in known + [*look[1], *look[2]] if told(book.trust, name)[1] not in liars}
            self.assertEqual({told(book.trust, name)[1] for name in look[1] + look[2]}, set(heard))
            for one, other in combinations(sorted(names), 2):
                self.assertIsNone(paper_of(book.trust, store, one, other))
        self.assertGreater(many, 60)

    def test_looks_behind_are_above_the_sure_row(self):
        draw = random.Random(1012)
        for _ in range(150):
            store = draw.choice(((2, 1, 0), (2, 4, 1), (2, 5, 1), (3, 4, 1)))
            book, known = drawn_talk(draw, store)
            # Houses that were not convicted are honest from here on; up to lies others say what they like.
            liars = set(liars_in(book.trust, store, known)) | set(draw.sample(range(store[1]), store[2]))
            liars = sorted(liars)[:store[2]] if len(liars) > store[2] else sorted(liars)
            if not set(liars_in(book.trust, store, known)) <= set(liars):
                continue
            heard = sorted(draw.sample(range(store[1]), book.need))
            last = {house: max([told(book.trust, name)[3] for name in known if told(book.trust, name)[1] == house], default=(0,) * store[0]) for house in heard}
            rows = [last[house] if house not in liars else (0,) * store[0] for house in heard]
            high = tuple(max(items) for items in zip(*rows))
            self.assertTrue(below(sure_row(book.trust, store, known), high))

    def test_wrong_misses(self):
        book = Talk(STORE)
        known = [book.say(0, (1, 0)), book.say(1, (1, 0))]
        args = (book.trust, STORE, known, (1, 0))
        miss = (0, (0,), (0, 2, 3))
        for value in (*odd_values(), *bends(miss), (1, (0,), (0, 2, 3)), (0, (), (0, 2, 3)), (0, (2,), (0, 2, 3)), (0, (0, 1), (0, 2, 3)), (0, (0,), (0, 1, 2)), (0, (0,), (2, 3)),
                      (0, (0,), (0, 1, 2, 3)), (0, (0,), (0, 3, 2)), (0, (0,), (0, 2, 2)), (0, (0,), (0, 2, 4)), (2, (0,), (0, 2, 3)), (0, (4,), (0, 2, 3)), miss[:2], miss + (0,)):
            self.assertIs(is_miss(*args, value), False, value)
        for value in (miss, (0, (1,), (1, 2, 3)), (0, (0,), (0, 2, 3))):
            self.assertIs(is_miss(*args, value), True)

    def test_all_convicted_are_among_the_liars(self):
        book = Talk(STORE)
        known = [book.say(0, (1, 0)), book.say(2, (1, 0)), book.fork(2, (0, 0))]
        args = (book.trust, STORE, known, (1, 0))
        self.assertIs(is_miss(*args, (0, (0,), (0, 1, 3))), False)
        self.assertIs(is_miss(*args, (0, (2,), (1, 2, 3))), True)
        self.assertEqual(miss_of(*args), (0, (2,), (1, 2, 3)))


class MoreLiars(unittest.TestCase):
    def test_as_many_as_may_lie_and_one_more(self):
        for store in ((2, 1, 0), (2, 4, 1), (2, 7, 2), (1, 13, 4)):
            book, no = Talk(store), (0,) * store[0]
            known = []
            for house in range(store[2] + 1):
                calls = ((miss_of, (no,)), (is_miss, (no, None)), (sure_row, ()))
                for call, rest in calls:
                    call(book.trust, store, known, *rest)
                known += [book.say(house, no), book.lie(house, 1, (1,) * store[0], ())]
                self.assertEqual(liars_in(book.trust, store, known), tuple(range(house + 1)))
            keepers = tuple(range(store[2] + 1, store[1]))
            self.assertEqual(keepers_of(book.trust, store, known, no), (keepers,) * store[0])
            for call, rest in calls:
                with self.assertRaises(MoreLie) as caught:
                    call(book.trust, store, known, *rest)
                self.assertEqual(caught.exception.houses, tuple(range(store[2] + 1)))


class Errors(unittest.TestCase):
    def setUp(self):
        self.book = Talk(STORE)
        self.known = [self.book.say(0, (1, 0)), self.book.say(1, (1, 0))]
        self.args = [self.book.trust, STORE, self.known]
        self.more = self.known + [self.book.fork(0, (7, 7)), self.book.fork(1, (7, 7))]
        self.rests = {liars_in: [], keepers_of: [(1, 0)], is_behind: [self.book.look((1, 0))], miss_of: [(1, 0)], is_miss: [(1, 0), None], sure_row: []}

    def test_errors(self):
        no_saying = self.book.trust.name("nothing")
        unsealed = self.book.trust.name(("saying", 0, 1, (3, 3), (), ()))
        known = [*[value for value in odd_values() if value != []], [None], [no_saying], [unsealed], self.known + [("name", 1000)], self.known[0], [self.known],
                 {name: 1 for name in self.known}, *[[bent] for bent in bends(self.known[0])]]
        for call, rest in self.rests.items():
            check_refused(self, BadTrust, call, self.args + rest, 0, NO_TRUST)
            check_refused(self, BadStore, call, self.args + rest, 1, NO_STORE)
            check_refused(self, BadSaying, call, self.args + rest, 2, known)
        for call in (keepers_of, miss_of, is_miss):
            check_refused(self, BadRow, call, self.args + self.rests[call], 3, [*odd_values(), (1,), (1, 0, 0), [1, 0], *bends((1, 0))])
        look = self.rests[is_behind][0]
        check_refused(self, BadLook, is_behind, self.args + [look], 3, [*odd_values(), look[:2], ((1, 1), *look[1:]), (look[0], look[2], look[1]), *bends(look)])

    def test_sequence(self):
        bad = [(0, None, BadTrust), (1, None, BadStore), (2, [None], BadSaying)]
        for call, rest in self.rests.items():
            check_sequence(self, call, self.args + rest, bad)
        check_sequence(self, keepers_of, self.args + [(1, 0)], bad + [(3, None, BadRow)])
        check_sequence(self, is_behind, self.args + [self.rests[is_behind][0]], bad + [(3, None, BadLook)])
        for call in (miss_of, is_miss, sure_row):
            check_sequence(self, call, self.args + self.rests[call], bad + [(2, self.more, MoreLie)])
        for call in (miss_of, is_miss):
            check_sequence(self, call, self.args + self.rests[call], bad + [(3, None, BadRow)])
            # MoreLie comes ahead of what is wrong with the row.
            check_refused(self, MoreLie, call, [*self.args[:2], self.more, *self.rests[call]], 3, [None, (1,)])

    def test_what_is_passed_stays(self):
        known, size = list(self.known), self.book.trust.size()
        for call, rest in self.rests.items():
            call(self.book.trust, STORE, known, *rest)
        self.assertEqual((known, self.book.trust.size()), (self.known, size))


if __name__ == "__main__":
    unittest.main()
