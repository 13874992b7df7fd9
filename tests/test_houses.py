"""Point 51: houses that keep to their rules; with points 30 to 32, 41 and 42."""

import random
import unittest
from itertools import combinations

from seenatonce.disks import Disk
from seenatonce.errors import BadDisk, BadHouse, BadLetter, BadStore, BadTrust, Fell
from seenatonce.houses import House
from seenatonce.letters import is_letter
from seenatonce.sayings import is_saying, paper_of
from seenatonce.sheets import is_closed, is_stock, row_of
from tests.helpers import Book, below, bends, check_refused, check_sequence, drawn_stock, odd_values
from tests.test_sayings import NO_STORE, NO_TRUST
from tests.test_sheets import two_hands

STORE = (2, 4, 1)
HAND, HOUSE = ("hand", 1), ("house", 3)
NOTHING = ((), ())


def ask(row=(0, 0), about=(), life=1, turn=1):
    return (HAND, HOUSE, ("ask", life, turn, row, about))


def keep(*names, life=1, turn=1):
    return (HAND, HOUSE, ("keep", life, turn, names))


def sayings_of(book, house):
    """The names of all sayings of the house that are in the book, in their sequence."""
    names = [("name", k) for k in range(book.trust.size())]
    return [name for name in names if is_saying(book.trust, book.store, name) and book.trust.content(name)[1] == house]


class Watched:
    """A house, with a look at whether anything came of what it heard."""

    def __init__(self, case, book, cells=None, fuse=None):
        self.case, self.book = case, book
        self.disk = Disk(cells or {}, fuse)
        self.house = House(book.trust, STORE, 3, self.disk)

    def marks(self):
        return (self.book.trust.size(), len(sayings_of(self.book, 3)), self.disk.cells(), self.disk.fuse)

    def hears_nothing(self, letter):
        """The letter has no answer, and nothing is named, sealed or written."""
        before = self.marks()
        self.case.assertEqual(self.house.hear(letter), [])
        self.case.assertEqual(self.marks(), before)

    def said(self, letter, row, about):
        """The body of the one answer, whose saying tells this row and about."""
        number = len(self.house.past()) + 1
        past = self.house.past()
        answers = self.house.hear(letter)
        self.case.assertEqual([answer[:2] for answer in answers], [(HOUSE, letter[0])])
        self.case.assertIs(is_letter(STORE, answers[0]), True)
        body = answers[0][2]
        saying = body[-1]
        self.case.assertEqual(self.book.trust.content(saying), ("saying", 3, number, row, past, about))
        self.case.assertIs(is_saying(self.book.trust, STORE, saying), True)
        self.case.assertEqual(self.house.past(), past + (saying,))
        self.case.assertEqual(body[1:3], letter[2][1:3])
        return body


class Hearing(unittest.TestCase):
    def setUp(self):
        self.book, self.stock = two_hands()
        (self.a, self.d), (self.b, self.c) = self.stock
        self.watched = Watched(self, self.book)
        self.house = self.watched.house

    def test_a_new_house(self):
        self.assertEqual((self.house.trust, self.house.store, self.house.number), (self.book.trust, STORE, 3))
        self.assertIs(self.house.disk, self.watched.disk)
        self.assertEqual((self.house.stock(), self.house.past(), self.house.row()), (NOTHING, (), (0, 0)))
        self.assertEqual(self.watched.disk.cells(), {})

    def test_coming_up_writes_nothing(self):
        cells = {"stock": self.stock, "past": (self.book.say(3, (1, 1)),), "other": 5}
        disk = Disk(cells, 0)
        house = House(trust=self.book.trust, store=STORE, number=3, disk=disk)
        self.assertEqual((house.stock(), house.past(), house.row()), (self.stock, cells["past"], (2, 2)))
        self.assertEqual((disk.cells(), disk.fuse), (cells, 0))

    def test_it_tells_what_the_disk_holds_then(self):
        self.watched.disk.write("stock", ((self.a,), ()))
        self.assertEqual((self.house.stock(), self.house.row()), (((self.a,), ()), (1, 0)))

    def test_asked_without_sheets(self):
        for k in range(3):
            body = self.watched.said(ask(life=k + 1, turn=k + 4), (0, 0), ())
            self.assertEqual(body[:4], ("have", k + 1, k + 4, ()))
        self.assertEqual(len(self.house.past()), 3)

    def test_asked_with_sheets(self):
        self.house.hear(keep(self.a, self.b, self.c, self.d))
        self.assertEqual(self.house.stock(), self.stock)
        for row, names in (((0, 0), (self.a, self.d, self.b, self.c)), ((1, 0), (self.d, self.b, self.c)), ((0, 2), (self.a, self.d)),
                           ((1, 1), (self.d, self.c)), ((2, 2), ()), ((9, 0), (self.b, self.c)), ((9, 9), ())):
            self.assertEqual(self.watched.said(ask(row), (2, 2), ())[3], names)

    def test_asked_about_names(self):
        about = (self.a, self.b, self.book.trust.name("any content"))
        self.assertEqual(self.watched.said(ask(about=tuple(sorted(about))), (0, 0), tuple(sorted(about)))[0], "have")
        for strange in ((("name", self.book.trust.size()),), (self.a, ("name", 10 ** 6))):
            self.watched.hears_nothing(ask(about=strange))

    def test_told_sheets(self):
        body = self.watched.said(keep(self.a, life=4, turn=7), (1, 0), ())
        self.assertEqual(body[:3], ("kept", 4, 7))
        self.assertEqual((self.house.stock(), self.house.row()), (((self.a,), ()), (1, 0)))
        self.watched.said(keep(self.b, self.c), (1, 2), ())
        self.watched.said(keep(self.d), (2, 2), ())
        self.assertEqual(self.house.stock(), self.stock)
        self.assertEqual(self.watched.disk.cells(), {"past": self.house.past(), "stock": self.stock})

    def test_told_nothing_new(self):
        for letter, row in ((keep(), (0, 0)), (keep(self.a), (1, 0)), (keep(self.a), (1, 0)), (keep(), (1, 0))):
            self.watched.said(letter, row, ())

    def test_told_nothing_new_only_the_past_is_written(self):
        watched = Watched(self, self.book, fuse=1)
        watched.said(keep(), (0, 0), ())
        self.assertEqual(list(watched.disk.cells()), ["past"])
        with self.assertRaises(Fell):
            watched.house.hear(ask())

    def test_names_that_are_no_next_sheets_are_passed_over(self):
        strange = self.book.trust.name("strange")
        unsealed = self.book.trust.name(("sheet", 0, 1, 5, 5, (self.book.look((0, 0)),)))
        names = (self.d, strange, ("name", 10 ** 9), unsealed, self.c, self.a, self.a, self.b, self.b, self.c, self.b, self.house_saying())
        self.watched.said(keep(*names), (1, 2), ())
        self.assertEqual(self.house.stock(), ((self.a,), (self.b, self.c)))
        self.watched.said(keep(self.b, self.d, self.d), (2, 2), ())
        self.assertEqual(self.house.stock(), self.stock)

    def test_names_of_any_contents_are_passed_over(self):
        contents = (None, 5, "", "sh", (), ("sheet",), ("sheet", 0), ("sheet", 0, 1), ("sheet", 0, 1, 0, 0, 1), (0, 0, 1, 0, 0, 0),
                    ("sheet", 0, 1, 0, 0, ()), self.book.trust.content(self.a), self.a)
        names = [self.book.trust.name((1, content)) for content in contents] + [self.book.trust.name(content) for content in contents]
        self.watched.said(keep(*names), (1, 0), ())
        self.assertEqual(self.house.stock(), ((self.a,), ()))

    def house_saying(self):
        self.house.hear(ask())
        return self.house.past()[-1]

    def test_gaps(self):
        self.watched.said(keep(self.d), (0, 0), ())
        self.watched.said(keep(self.c, self.d), (0, 0), ())
        self.assertEqual(self.house.stock(), NOTHING)

    def test_the_first_of_two_sheets_with_one_number_is_taken(self):
        other = self.book.sheet(0, 1, (self.book.look((0, 0)),), 7)
        self.watched.said(keep(other, self.a), (1, 0), ())
        self.assertEqual(self.house.stock(), ((other,), ()))

    def test_a_row_that_is_not_closed(self):
        # The look of b has a, that of c has b, that of d has b as well.
        for names in ((self.b,), (self.b, self.c)):
            self.watched.hears_nothing(keep(*names))
        self.watched.said(keep(self.a), (1, 0), ())
        self.watched.hears_nothing(keep(self.d))
        self.watched.said(keep(self.d, self.b), (2, 1), ())

    def test_letters_to_others(self):
        self.watched.house.hear(keep(self.a))
        for letter in (ask(), keep(self.b)):
            for house in range(3):
                self.watched.hears_nothing((letter[0], ("house", house), letter[2]))
        for body in (("have", 1, 1, (), self.a), ("kept", 1, 1, self.a)):
            for house in (0, 3):
                self.watched.hears_nothing((("house", house), HAND, body))

    def test_every_hand_is_answered(self):
        for hand in (0, 1):
            self.assertEqual(self.house.hear((("hand", hand), HOUSE, ask()[2]))[0][1], ("hand", hand))

    def test_what_is_no_letter_changes_nothing(self):
        before = self.watched.marks()
        beyond = [(("hand", 2), *ask()[1:]), (HAND, ("house", 4), ask()[2]), ask((0, 0, 0)), ask(turn=0), ask(life=0)]
        for letter in (ask((0, 1), (self.a,)), keep(self.a)):
            check_refused(self, BadLetter, self.house.hear, [letter], 0, [*odd_values(), *bends(letter), (), 5, *beyond])
        self.assertEqual(self.watched.marks(), before)
        self.assertEqual(self.house.hear(letter=ask())[0][2][0], "have")

    def test_a_list_that_is_returned_is_new(self):
        answers = self.house.hear(ask())
        answers.clear()
        nothing = self.house.hear((HAND, ("house", 0), ask()[2]))
        nothing.append(1)
        self.assertEqual(self.house.hear((HAND, ("house", 0), ask()[2])), [])
        self.assertEqual(len(self.house.past()), 1)


class Falling(unittest.TestCase):
    def back(self, watched, fuse=None):
        """The house comes back on a disk with the same cells."""
        return Watched(self, watched.book, watched.disk.cells(), fuse)

    def test_at_the_first_write_of_a_keep(self):
        book, ((a, _), _) = two_hands()
        watched = Watched(self, book, fuse=0)
        before = watched.disk.cells()
        for letter in (keep(a), ask(), keep()):
            with self.assertRaises(Fell):
                watched.house.hear(letter)
            self.assertEqual((watched.disk.cells(), sayings_of(book, 3)), (before, []))
        self.back(watched).said(keep(a), (1, 0), ())

    def test_at_the_second_write_of_a_keep(self):
        book, ((a, _), _) = two_hands()
        watched = Watched(self, book, fuse=1)
        with self.assertRaises(Fell):
            watched.house.hear(keep(a))
        # What was written stands: the sheet is there, and nothing was said.
        self.assertEqual(watched.disk.cells(), {"stock": ((a,), ())})
        self.assertEqual((watched.house.row(), watched.house.past(), sayings_of(book, 3)), ((1, 0), (), []))
        with self.assertRaises(Fell):
            watched.house.hear(ask())
        back = self.back(watched)
        self.assertEqual(back.house.row(), (1, 0))
        back.said(ask(), (1, 0), ())

    def test_what_is_written_is_written_ahead_of_the_seal(self):
        # A fall at the write to the past: the content may have its name, but no seal is on it.
        book, ((a, _), _) = two_hands()
        watched = Watched(self, book, fuse=0)
        with self.assertRaises(Fell):
            watched.house.hear(ask())
        content = ("saying", 3, 1, (0, 0), (), ())
        self.assertIs(is_saying(book.trust, STORE, book.trust.name(content)), False)
        back = self.back(watched)
        back.said(keep(a), (1, 0), ())
        self.assertIs(is_saying(book.trust, STORE, book.trust.name(content)), False)

    def test_a_fallen_house_can_be_told_further_letters(self):
        book, ((a, _), _) = two_hands()
        watched = Watched(self, book, fuse=2)
        watched.said(keep(a), (1, 0), ())
        for letter in (ask(), keep()):
            with self.assertRaises(Fell):
                watched.house.hear(letter)
        watched.hears_nothing((HAND, ("house", 0), ask()[2]))
        watched.hears_nothing(ask(about=(("name", 10 ** 6),)))

    def test_heart(self):
        draw = random.Random(510)
        fallen = answered = silent = 0
        for _ in range(60):
            book, stock = drawn_stock(draw, STORE, 6, draw.random() < 0.7)
            names = [name for sheets in stock for name in sheets]
            watched = Watched(self, book, fuse=draw.choice((None, 0, 1, 2, 3)))
            row = (0, 0)
            for _ in range(25):
                told = [draw.choice(names) for _ in range(draw.randint(0, 4)) if names]
                told = told if draw.random() < 0.5 else [name for name in names if draw.random() < 0.8]
                about = tuple(sorted(set(told))) if draw.random() < 0.8 else (("name", 10 ** 6),)
                letter = draw.choice((ask(tuple(draw.randint(0, 3) for _ in range(2)), about), keep(*told)))
                try:
                    answers = watched.house.hear(letter)
                    answered += len(answers)
                    silent += not answers
                except Fell:
                    fallen += 1
                    watched = Watched(self, book, watched.disk.cells(), draw.choice((None, 0, 1, 2, 3)))
                house = watched.house
                self.assertTrue(below(row, house.row()))
                row = house.row()
                self.assertIs(is_stock(book.trust, STORE, house.stock()), True)
                self.assertIs(is_closed(book.trust, STORE, house.stock(), row), True)
                self.assertEqual(row, row_of(house.stock()))
            sayings = sayings_of(book, 3)
            for one, other in combinations(sayings, 2):
                self.assertIsNone(paper_of(book.trust, STORE, one, other))
        self.assertGreater(min(fallen, answered, silent), 50)


class Making(unittest.TestCase):
    def test_houses_of_the_store(self):
        book = Book(STORE)
        for number in range(4):
            self.assertEqual(House(book.trust, STORE, number, Disk({}, None)).number, number)

    def test_errors(self):
        book = Book(STORE)
        args = [book.trust, STORE, 1, Disk({}, None)]
        check_refused(self, BadTrust, House, args, 0, NO_TRUST)
        check_refused(self, BadStore, House, args, 1, NO_STORE)
        check_refused(self, BadHouse, House, args, 2, [None, True, False, -1, 4, 10 ** 18, "0", (0,), [0], {}])
        check_refused(self, BadDisk, House, args, 3, [*odd_values(), Disk, book.trust, {"stock": NOTHING}])
        check_sequence(self, House, args, [(0, None, BadTrust), (1, None, BadStore), (2, 4, BadHouse), (3, None, BadDisk)])

    def test_houses_are_equal_to_no_other_values(self):
        house = House(Book(STORE).trust, STORE, 0, Disk({}, None))
        for value in (None, 0, "", (), house.disk, house.trust):
            self.assertNotEqual(house, value)


if __name__ == "__main__":
    unittest.main()
