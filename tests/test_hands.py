"""Points 61 to 64: hands that keep to their rules, letter by letter; with points 41, 42, 50 to 52, 72 and 90."""

import unittest

from seenatonce.court import named, went_back
from seenatonce.disks import Disk
from seenatonce.errors import BadDeed, BadDisk, BadHand, BadState, BadStore, BadTable, BadTrust, Busy, Fell, Lied
from seenatonce.hands import Hand
from seenatonce.sheets import is_sheet, is_stock, row_of
from seenatonce.spans import are_parted, is_look, span_of
from seenatonce.tables import counting_table
from tests.hands_helpers import TABLE, Stage, Town, numbers_sealed
from tests.helpers import GREATEST, Book, bends, check_refused, check_sequence, odd_values
from tests.test_lots import NO_TABLE
from tests.test_sayings import NO_STORE, NO_TRUST

STORE = (2, 4, 1)


class OneHandAndOneHouse(unittest.TestCase):
    def setUp(self):
        self.stage = Stage((1, 1, 0))
        self.hand = self.stage.up()

    def letter(self, *body):
        return [(("hand", 0), ("house", 0), body)]

    def test_by_hand(self):
        stage, hand = self.stage, self.hand
        self.assertEqual(hand.call(0), self.letter("ask", 1, 1, (0,), ()))
        self.assertEqual(stage.collect((0,)), self.letter("keep", 1, 2, ()))
        self.assertIsNone(stage.disk.read("last"))
        letters = stage.keep((0,))
        n = stage.book.pasts[0][-1]
        self.assertEqual(stage.disk.read("last"), ((0,), (n,)))
        self.assertEqual(letters, self.letter("ask", 1, 3, (0,), (n,)))
        letters = stage.collect((0,))
        m = stage.book.pasts[0][-1]
        sheet = stage.disk.read("sheet")
        self.assertEqual(stage.trust.content(sheet), ("sheet", 0, 1, 0, 0, (((0,), (n,), (m,)),)))
        self.assertIs(is_sheet(stage.trust, (1, 1, 0), 0, sheet), True)
        self.assertEqual(letters, self.letter("keep", 1, 4, (sheet,)))
        self.assertIsNone(hand.answer())
        self.assertEqual(stage.keep((1,)), [])
        self.assertEqual(hand.answer(), ("done", 0))
        k = stage.book.pasts[0][-1]
        self.assertEqual(stage.disk.cells(), {"life": 1, "last": ((1,), (k,)), "looks": (), "sheet": None, "stock": ((sheet,),)})
        # The next call takes its look with its first collect.
        self.assertEqual(hand.call(2), self.letter("ask", 1, 5, (1,), (k,)))
        letters = stage.collect((1,))
        second = stage.disk.read("sheet")
        self.assertEqual(letters, self.letter("keep", 1, 6, (second,)))
        self.assertEqual(stage.trust.content(second)[2:5], (2, 2, 1))
        stage.keep((2,))
        self.assertEqual(hand.answer(), ("done", 1))

    def test_with_a_house_that_keeps_to_its_rules(self):
        town = Town((1, 1, 0))
        answers = [town.call(0, deed) for deed in (0, 2, 0, 2, 0, 2, 1, 2)]
        self.assertEqual(answers, [("done", told) for told in (0, 1, 0, 2, 0, 0, 0, 0)])
        self.assertEqual(numbers_sealed(town.trust), [(0, k + 1) for k in range(8)])

    def test_begin_is_the_state_ahead_of_all_deeds(self):
        for begin in range(3):
            town = Town((1, 1, 0), TABLE, begin)
            self.assertEqual([town.call(0, deed) for deed in (2, 0, 2)], [("done", begin), ("done", 0), ("done", (begin + 1) % 3)])


class ComingUp(unittest.TestCase):
    def test_an_empty_disk(self):
        stage = Stage(STORE, TABLE, 1, 1)
        hand = stage.up()
        self.assertEqual((hand.trust, hand.store, hand.table, hand.begin, hand.number, hand.life), (stage.trust, STORE, TABLE, 1, 1, 1))
        self.assertIs(hand.disk, stage.disk)
        self.assertEqual((hand.again(), hand.answer(), stage.disk.cells()), ([], None, {"life": 1}))

    def test_lives(self):
        stage = Stage(STORE)
        for life in range(1, 6):
            self.assertEqual((stage.back().life, stage.disk.cells()), (life, {"life": life}))

    def test_life_is_written_ahead_of_anything_else(self):
        stage = Stage(STORE, fuse=0)
        with self.assertRaises(Fell):
            stage.up()
        self.assertEqual(stage.disk.cells(), {})
        self.assertEqual(stage.back().life, 1)

    def test_parameters_by_name(self):
        book, disk = Book(STORE), Disk({}, None)
        hand = Hand(trust=book.trust, store=STORE, table=TABLE, begin=0, number=0, disk=disk)
        self.assertEqual(len(hand.call(deed=0)), 4)
        self.assertEqual(hand.hear(letter=None), [])

    def test_errors(self):
        args = [Book(STORE).trust, STORE, TABLE, 2, 1, Disk({}, None)]
        check_refused(self, BadTrust, Hand, args, 0, NO_TRUST)
        check_refused(self, BadStore, Hand, args, 1, NO_STORE)
        check_refused(self, BadTable, Hand, args, 2, NO_TABLE)
        check_refused(self, BadState, Hand, args, 3, [*odd_values(), -1, 3, (), "2"])
        check_refused(self, BadHand, Hand, args, 4, [*odd_values(), -1, 2, (), "1"])
        check_refused(self, BadDisk, Hand, args, 5, [*odd_values(), Disk, {"life": 1}])
        check_sequence(self, Hand, args, [(0, None, BadTrust), (1, None, BadStore), (2, None, BadTable), (3, 3, BadState),
                                          (4, 2, BadHand), (5, None, BadDisk)])
        self.assertEqual((args[5].cells(), args[0].size()), ({}, 0))

    def test_hands_are_equal_to_no_other_values(self):
        stage = Stage(STORE)
        for value in (None, 0, "", (), stage.disk, stage.trust):
            self.assertNotEqual(stage.up(), value)


class Calls(unittest.TestCase):
    def setUp(self):
        self.stage = Stage(STORE)
        self.hand = self.stage.up()

    def test_the_letters_of_a_call(self):
        letters = self.hand.call(1)
        self.assertEqual(letters, [(("hand", 0), ("house", s), ("ask", 1, 1, (0, 0), ())) for s in range(4)])
        self.assertEqual((self.hand.again(), self.hand.answer()), (letters, None))
        self.assertEqual(self.stage.disk.cells(), {"life": 1})

    def test_a_call_writes_nothing(self):
        self.stage.whole_call(0, (0, 0))
        cells = self.stage.disk.cells()
        self.stage.hand.call(1)
        self.assertEqual(self.stage.disk.cells(), cells)

    def test_busy(self):
        self.hand.call(0)
        before = self.stage.marks()
        for deed in range(3):
            with self.assertRaises(Busy):
                self.hand.call(deed)
        self.assertEqual(self.stage.marks(), before)
        self.stage.collect((0, 0))
        with self.assertRaises(Busy):
            self.hand.call(0)
        self.stage.keep((0, 0))
        self.stage.collect((0, 0))
        with self.assertRaises(Busy):
            self.hand.call(0)
        self.stage.keep((1, 0))
        self.assertEqual(len(self.hand.call(0)), 4)

    def test_bad_deeds_ahead_of_all(self):
        deeds = [*odd_values(), -1, 3, (), "0"]
        check_refused(self, BadDeed, self.hand.call, [0], 0, deeds)
        self.assertEqual(self.stage.marks()[:3], ([], None, {"life": 1}))
        self.hand.call(0)
        check_refused(self, BadDeed, self.hand.call, [0], 0, deeds)

    def test_lists_that_are_returned_are_new(self):
        self.hand.call(0).clear()
        self.hand.again().clear()
        self.assertEqual(len(self.hand.again()), 4)
        self.stage.collect((0, 0)).clear()
        self.assertEqual(len(self.hand.again()), 4)
        self.hand.hear(None).append(1)
        self.assertEqual(self.hand.hear(None), [])

    def test_again(self):
        self.assertEqual(self.hand.again(), [])
        letters = self.hand.call(0)
        self.hand.hear(self.stage.have(2, (0, 0)))
        self.assertEqual(self.hand.again(), [letters[0], letters[1], letters[3]])
        self.hand.hear(self.stage.have(0, (0, 0)))
        self.assertEqual(self.hand.again(), [letters[1], letters[3]])
        told = self.hand.hear(self.stage.have(3, (0, 0)))
        self.assertEqual(self.hand.again(), told)


class RightAnswers(unittest.TestCase):
    """What is no right answer changes nothing: not the open round, not a cell of the disk."""

    def setUp(self):
        self.stage = Stage(STORE)
        self.book = self.stage.book
        self.hand = self.stage.up()
        # Hand 1 did a deed, and then another one that saw it.
        self.one = self.book.sheet(1, 1, (self.book.look((0, 0)),))
        self.two = self.book.sheet(1, 2, (self.book.look((0, 1)),))

    def check_nothing(self, letter):
        before = self.stage.marks()
        self.assertEqual(self.hand.hear(letter), [])
        self.assertEqual(self.stage.marks(), before, letter)

    def check_bent(self, letter):
        """Other values, bent letters, and those of other houses, hands, lives and turns."""
        sender, receiver, (word, life, turn, *rest) = letter
        for value in (*odd_values(), (), 5, *bends(letter)):
            self.check_nothing(value)
        for house in (0, 2, 3):
            self.check_nothing((("house", house), receiver, letter[2]))
        self.check_nothing((sender, ("hand", 1), letter[2]))
        self.check_nothing((receiver, sender, letter[2]))
        for other, later in ((life + 1, turn), (life, turn + 1), (life, turn - 1), (GREATEST, turn), (turn, life + 1)):
            self.check_nothing((sender, receiver, (word, other, later, *rest)))

    def test_no_open_round(self):
        self.hand.call(0)
        letter = self.stage.have(0, (0, 0))
        self.hand = self.stage.back()
        self.check_nothing(letter)
        self.check_nothing(None)

    def test_answers_to_a_collect(self):
        self.hand.call(0)
        letter = self.stage.have(1, (0, 1), (self.one,))
        self.check_bent(letter)
        self.check_nothing((*letter[:2], ("kept", 1, 1, letter[2][4])))
        for saying in (self.book.say(1, (0, 0), (self.one,)), self.book.say(2, (0, 0)), self.one,
                       self.book.trust.name(("saying", 1, 9, (0, 0), (), ())), ("name", self.book.trust.size() + 5)):
            self.check_nothing((*letter[:2], ("have", 1, 1, (self.one,), saying)))
        # The stock, with what the letter tells, does not reach the row of the saying; or that row is not closed.
        for names, row in (((), (0, 1)), ((self.two,), (0, 1)), ((self.one,), (0, 2)), ((self.one,), (1, 1))):
            self.check_nothing(self.stage.have(1, row, names))
        self.assertEqual(self.hand.hear(letter), [])
        self.assertEqual(self.stage.disk.cells(), {"life": 1, "stock": ((), (self.one,))})
        self.assertEqual([other[1][1] for other in self.hand.again()], [0, 2, 3])
        self.check_nothing(letter)

    def test_a_row_that_is_not_closed(self):
        far = self.book.sheet(0, 1, (self.book.look((0, 2)),))
        self.stage = Stage((2, 4, 1), number=1)
        self.stage.book = self.book
        self.stage.trust = self.book.trust
        self.hand = self.stage.up()
        self.hand.call(0)
        self.check_nothing(self.stage.have(1, (1, 1), (self.one, far)))
        self.check_nothing(self.stage.have(1, (1, 0), (self.one, self.two, far)))
        self.hand.hear(self.stage.have(1, (1, 2), (far, self.one, self.two)))
        self.assertEqual(self.stage.disk.read("stock"), ((far,), (self.one, self.two)))

    def test_names_are_taken_in_as_houses_do(self):
        self.hand.call(0)
        strange = self.book.trust.name("strange")
        names = (self.two, strange, ("name", 10 ** 9), self.one, self.one, self.two, self.book.say(0, (0, 0)))
        self.hand.hear(self.stage.have(3, (0, 1), names))
        self.assertEqual(self.stage.disk.read("stock"), ((), (self.one, self.two)))

    def test_a_stock_that_is_the_same_is_not_written(self):
        self.stage.disk = Disk({}, 1)
        self.hand = self.stage.up()
        self.hand.call(0)
        self.hand.hear(self.stage.have(3, (0, 0), ()))
        self.assertEqual(self.stage.disk.fuse, 0)
        with self.assertRaises(Fell):
            self.hand.hear(self.stage.have(2, (0, 0), (self.one,)))

    def test_answers_to_a_telling(self):
        self.hand.call(0)
        self.stage.collect([(0, 0), (0, 1), (0, 0)], (self.one,))
        letter = self.stage.kept(1, (0, 1))
        self.check_bent(letter)
        self.check_nothing((*letter[:2], ("have", 1, 2, (), letter[2][3])))
        for saying in (self.book.say(1, (0, 1), (self.one,)), self.book.say(1, (0, 0)), self.book.say(1, (5, 0)), self.book.say(2, (0, 1)),
                       self.one, self.book.trust.name(("saying", 1, 9, (0, 1), (), ())), ("name", self.book.trust.size() + 5)):
            self.check_nothing((*letter[:2], ("kept", 1, 2, saying)))
        # Rows that the hand's stock does not reach are right here.
        self.assertEqual(self.hand.hear(self.stage.kept(1, (7, 9))), [])
        self.assertEqual([other[1][1] for other in self.hand.again()], [0, 2, 3])
        self.check_nothing(letter)

    def test_an_answer_of_an_earlier_round(self):
        self.hand.call(0)
        asked = self.stage.have(3, (0, 0))
        self.stage.collect((0, 0))
        self.check_nothing(asked)
        told = self.stage.kept(3, (0, 0))
        self.stage.keep((0, 0))
        self.check_nothing(told)
        # The same saying, with the turn of the open round, is about other names.
        self.check_nothing((*asked[:2], ("have", 1, 3, (), asked[2][4])))

    def test_an_answer_of_another_life(self):
        self.hand.call(0)
        letter = self.stage.have(1, (0, 0))
        self.hand = self.stage.back()
        self.hand.call(0)
        self.check_nothing(letter)
        self.assertEqual(self.stage.asked()[1][2][1:3], (2, 1))
        self.hand.hear((*letter[:2], ("have", 2, 1, *letter[2][3:])))
        self.assertEqual(len(self.hand.again()), 3)

    def test_more_hands_than_houses(self):
        stage = Stage((6, 1, 0), number=4)
        self.book, self.stage = stage.book, stage
        self.hand = stage.up()
        sheets = tuple(self.book.sheet(hand, 1, (self.book.look((0,) * 6),)) for hand in (0, 5))
        self.hand.call(2)
        for hand in range(6):
            for body in (("ask", 1, 1, (0,) * 6, ()), ("keep", 1, 1, ())):
                self.check_nothing((("hand", hand), ("house", 0), body))
        row = (1, 0, 0, 0, 0, 1)
        self.assertEqual(stage.collect(row, sheets)[0][2], ("keep", 1, 2, ()))
        stage.keep(row)
        stage.collect(row)
        sheet = stage.disk.read("sheet")
        self.hand = stage.back()
        self.assertEqual(self.hand.again(), [(("hand", 4), ("house", 0), ("keep", 2, 1, (sheets[0], sheet, sheets[1])))])
        stage.keep((1, 0, 0, 0, 1, 1))
        self.assertEqual(self.hand.answer(), ("done", 2))

    def test_a_house_that_answered_already(self):
        self.hand.call(0)
        late = self.stage.have(2, (0, 1), (self.one,))
        self.hand.hear(self.stage.have(2, (0, 0)))
        self.check_nothing(late)
        self.stage.collect([(0, 0), (0, 0)], (), (0, 3))
        self.assertEqual(self.hand.again()[0][2][:3], ("keep", 1, 2))


class Collecting(unittest.TestCase):
    def setUp(self):
        self.stage = Stage((3, 4, 1))
        self.book = self.stage.book
        self.hand = self.stage.up()

    def sheet(self, hand, number, row, deed=0, answer=0):
        return self.book.sheet(hand, number, (self.book.look(row),), deed, answer)

    def test_a_row_is_told_back(self):
        b, c = self.sheet(1, 1, (0, 0, 0)), self.sheet(2, 1, (0, 1, 0))
        self.hand.call(0)
        letters = self.stage.collect([(0, 0, 0), (0, 1, 0), (0, 1, 1)], (b, c), (0, 1, 3))
        # To each house what it lacks, to the one of which nothing came all.
        bodies = [("keep", 1, 2, names) for names in ((b, c), (c,), (b, c), ())]
        self.assertEqual([letter[2] for letter in letters], bodies)
        self.assertEqual([letter[:2] for letter in letters], [(("hand", 0), ("house", s)) for s in range(4)])
        letters = self.stage.keep((0, 1, 1), (3, 1, 0))
        row, kept = self.stage.disk.read("last")
        self.assertEqual((row, kept), ((0, 1, 1), tuple(sorted(self.book.pasts[s][-1] for s in (0, 1, 3)))))
        self.assertEqual([letter[2] for letter in letters], [("ask", 1, 3, (0, 1, 1), kept)] * 4)

    def test_only_what_was_collected_is_told_back(self):
        # The stock may have more than x.
        b, c = self.sheet(1, 1, (0, 0, 0)), self.sheet(1, 2, (0, 1, 0))
        self.hand.call(0)
        letters = self.stage.collect([(0, 1, 0), (0, 0, 0), (0, 0, 0)], (b, c))
        self.assertEqual(self.stage.disk.read("stock"), ((), (b, c), ()))
        self.assertEqual([letter[2][3] for letter in letters], [(), (b,), (b,), (b,)])
        letters = self.stage.keep((0, 1, 0))
        self.assertEqual(letters[0][2][3], (0, 2, 0))

    def test_a_look_is_taken_when_two_rounds_show_the_same(self):
        b = self.sheet(1, 1, (0, 0, 0), 0)
        self.hand.call(2)
        self.stage.collect((0, 1, 0), (b,))
        self.stage.keep((0, 1, 0))
        row, kept = self.stage.disk.read("last")
        letters = self.stage.collect([(0, 1, 0), (0, 0, 0), (0, 1, 0)], (), (1, 2, 3))
        had = tuple(sorted(self.book.pasts[s][-1] for s in (1, 2, 3)))
        sheet = self.stage.disk.read("sheet")
        # The deed of hand 1 counted one: the look tells it.
        self.assertEqual(self.stage.trust.content(sheet), ("sheet", 0, 1, 2, 1, (((0, 1, 0), kept, had),)))
        self.assertEqual([letter[2][3] for letter in letters], [(sheet, b), (sheet,), (sheet, b), (sheet,)])
        self.assertEqual(self.stage.disk.read("last"), (row, kept))

    def test_a_look_shows_what_ended_till_it(self):
        town = Town((3, 4, 1))
        self.assertEqual([town.call(h, d) for h, d in ((0, 0), (1, 0), (2, 2), (0, 2), (1, 1), (0, 2))],
                         [("done", told) for told in (0, 0, 2, 2, 0, 0)])

    def lent_stage(self):
        """The first collect shows (0, 0, 0), and then hand 1 is two sheets ahead."""
        self.sheets = [self.sheet(1, k + 1, (0, k, 0)) for k in range(3)]
        self.hand.call(2)
        self.stage.collect((0, 0, 0))
        self.stage.keep((0, 0, 0))
        self.assertEqual(self.hand.again()[0][2][:3], ("ask", 1, 3))

    def test_a_lent_look(self):
        self.lent_stage()
        letters = self.stage.collect([(0, 2, 0), (0, 1, 0), (0, 0, 0)], tuple(self.sheets))
        look = self.book.trust.content(self.sheets[1])[5][0]
        self.assertEqual(look[0], (0, 1, 0))
        self.assertEqual(self.stage.disk.read("last"), look[:2])
        self.assertEqual(self.stage.disk.read("looks"), (look,))
        sheet = self.stage.disk.read("sheet")
        # The answer is that at the row of the look, though the stock has one more.
        self.assertEqual(self.book.trust.content(sheet), ("sheet", 0, 1, 2, 1, (look,)))
        # Told up to the row of the look, not up to that of the collect.
        self.assertEqual([letter[2][3] for letter in letters], [(sheet,), (sheet,), (sheet, self.sheets[0]), (sheet, self.sheets[0])])
        self.stage.keep((1, 1, 0))
        self.assertEqual(self.stage.disk.read("last")[0], (1, 1, 0))
        self.assertEqual(self.hand.answer(), ("done", 1))

    def test_still_more_than_two(self):
        self.lent_stage()
        self.stage.collect((0, 3, 0), tuple(self.sheets))
        self.assertEqual(self.stage.disk.read("looks")[0][0], (0, 2, 0))

    def test_one_more_lends_nothing(self):
        self.lent_stage()
        letters = self.stage.collect((0, 1, 0), tuple(self.sheets))
        self.assertEqual(letters[0][2][:3], ("keep", 1, 4))
        self.assertIsNone(self.stage.disk.read("sheet"))
        # What the row has more is told from the first collect of the call on, not from the one before.
        self.stage.keep((0, 1, 0))
        self.stage.collect((0, 2, 0))
        self.assertEqual(self.stage.disk.read("looks")[0][0], (0, 1, 0))

    def test_the_least_hand_lends(self):
        sheets = [self.sheet(2, 1, (0, 0, 0)), self.sheet(1, 1, (0, 0, 1)), self.sheet(2, 2, (0, 1, 1)), self.sheet(1, 2, (0, 1, 2))]
        self.hand.call(0)
        self.stage.collect((0, 0, 0))
        self.stage.keep((0, 0, 0))
        self.stage.collect((0, 2, 2), tuple(sheets))
        self.assertEqual(self.stage.disk.read("looks")[0][0], (0, 1, 2))
        self.assertEqual(self.stage.disk.read("last"), self.stage.disk.read("looks")[0][:2])

    def test_two_rounds_that_show_the_same_come_first(self):
        # (b) ahead of (c): the row of last itself has two more than that of the first collect.
        self.lent_stage()
        self.stage.collect((0, 1, 0), tuple(self.sheets))
        self.stage.keep((0, 1, 0))
        cells = self.stage.disk.cells()
        self.stage.collect((0, 1, 0))
        self.assertEqual(self.stage.disk.read("looks")[0][:2], cells["last"])

    def fall_behind_a_look(self):
        """The hand takes a look and falls ahead of writing its sheet."""
        self.stage.disk = Disk({}, 3)
        self.hand = self.stage.up()
        self.hand.call(0)
        self.stage.collect((0, 0, 0))
        self.stage.keep((0, 0, 0))
        with self.assertRaises(Fell):
            self.stage.collect((0, 0, 0))
        self.assertEqual(sorted(self.stage.disk.cells()), ["last", "life", "looks"])

    def test_looks_that_were_taken_stay(self):
        # The hand fell behind "looks": its next sheet tells both looks.
        b = self.sheet(1, 1, (0, 0, 0))
        self.fall_behind_a_look()
        self.hand = self.stage.back()
        self.assertEqual((self.hand.again(), self.hand.answer()), ([], None))
        looks = self.stage.disk.read("looks")
        self.hand.call(0)
        self.stage.collect((0, 1, 0), (b,))
        self.stage.keep((0, 1, 0))
        self.stage.collect((0, 1, 0))
        told = self.stage.trust.content(self.stage.disk.read("sheet"))
        self.assertEqual((told[2], told[5][:1], [look[0] for look in told[5]]), (1, looks, [(0, 0, 0), (0, 1, 0)]))
        self.assertEqual(self.stage.disk.read("looks"), told[5])

    def test_a_look_with_the_row_of_the_last_one_is_not_written(self):
        self.fall_behind_a_look()
        looks = self.stage.disk.read("looks")
        self.hand = self.stage.back(2)
        self.hand.call(1)
        self.stage.collect((0, 0, 0))
        # Only "life" and "sheet" were written; the elder look stays.
        self.assertEqual((self.stage.disk.fuse, self.stage.disk.read("looks")), (0, looks))
        self.assertEqual(self.stage.trust.content(self.stage.disk.read("sheet"))[3:], (1, 0, looks))


class LiedTo(unittest.TestCase):
    def setUp(self):
        self.stage = Stage((3, 4, 1))
        self.book = self.stage.book
        self.hand = self.stage.up()

    def sheet(self, hand, number, row):
        return self.book.sheet(hand, number, (self.book.look(row),))

    def check_lied(self, letter, papers, cells):
        """The letter lies to the hand: nothing is written, and this life is at its end."""
        self.assertEqual(self.hand.hear(letter), [])
        self.assertEqual(self.hand.answer(), ("lied", papers))
        self.assertEqual((self.hand.again(), self.stage.disk.cells()), ([], cells))
        for deed in range(3):
            with self.assertRaises(Lied):
                self.hand.call(deed)
        check_refused(self, BadDeed, self.hand.call, [0], 0, [3, True, None])
        self.assertEqual(self.hand.hear(letter), [])
        # In its next life it can be called.
        self.stage.back()
        self.assertIsNone(self.stage.hand.answer())
        self.assertEqual(len(self.stage.hand.call(0)), 4)

    def last_answer(self, rows, names=(), houses=(0, 1, 2)):
        """All answers of a collect but the last one are heard, which is returned."""
        for house, row in list(zip(houses, rows))[:-1]:
            self.assertEqual(self.hand.hear(self.stage.have(house, row, names)), [])
        return self.stage.have(houses[-1], rows[-1], names)

    def test_went_back(self):
        b = self.sheet(1, 1, (0, 0, 0))
        self.hand.call(0)
        self.stage.collect((0, 1, 0), (b,))
        self.stage.keep((0, 1, 0))
        row, kept = self.stage.disk.read("last")
        letter = self.last_answer([(0, 0, 0)] * 3, (), (1, 2, 3))
        cells = self.stage.disk.cells()
        had = tuple(sorted(self.book.pasts[s][-1] for s in (1, 2, 3)))
        papers = went_back(self.stage.trust, (3, 4, 1), row, kept, had)
        self.assertEqual([house for house, _ in papers], [1, 2])
        self.check_lied(letter, papers, cells)

    def test_went_back_comes_ahead_of_all(self):
        # Back from (0, 1, 0) to (0, 0, 2), which has two sheets more of hand 2 than the first collect.
        b, c, d = self.sheet(1, 1, (0, 0, 0)), self.sheet(2, 1, (0, 0, 0)), self.sheet(2, 2, (0, 0, 1))
        self.hand.call(0)
        self.stage.collect((0, 1, 0), (b,))
        self.stage.keep((0, 1, 0))
        row, kept = self.stage.disk.read("last")
        letter = self.last_answer([(0, 0, 2)] * 3, (c, d))
        cells = self.stage.disk.cells()
        had = tuple(sorted(self.book.pasts[s][-1] for s in range(3)))
        self.check_lied(letter, went_back(self.stage.trust, (3, 4, 1), row, kept, had), cells)

    def parted_sheets(self):
        """Sheets of hands 1 and 2 whose looks are parted, and what these need."""
        sheets = [self.sheet(1, 1, (0, 0, 0)), self.sheet(2, 1, (0, 0, 0)), self.sheet(1, 2, (0, 1, 0)), self.sheet(2, 2, (0, 0, 1))]
        looks = [self.book.trust.content(name)[5][0] for name in sheets]
        return sheets, looks

    def test_parted_looks_in_sheets(self):
        sheets, looks = self.parted_sheets()
        self.hand.call(0)
        self.hand.hear(self.stage.have(3, (0, 2, 1), tuple(sheets[:3])))
        cells = self.stage.disk.cells()
        one, other = span_of(looks[2]), span_of(looks[3])
        self.assertIs(are_parted(self.stage.trust, (3, 4, 1), one, other), True)
        papers = named(self.stage.trust, (3, 4, 1), one, other)
        self.assertGreaterEqual(len(papers), 2)
        self.check_lied(self.stage.have(0, (0, 2, 2), (sheets[3],)), papers, cells)

    def fall_behind(self, sheet, row):
        """The hand falls behind taking a look with this row, and comes back."""
        self.stage.disk = Disk({}, 4)
        self.hand = self.stage.up()
        self.hand.call(0)
        self.stage.collect(row, (sheet,))
        self.stage.keep(row)
        with self.assertRaises(Fell):
            self.stage.collect(row)
        self.hand = self.stage.back()

    def test_what_is_no_right_answer_does_not_lie(self):
        # The sheets are parted, but the row of the saying is not reached; so nothing is taken in.
        sheets, _ = self.parted_sheets()
        self.hand.call(0)
        before = self.stage.marks()[0]
        self.assertEqual(self.hand.hear(self.stage.have(0, (0, 3, 2), tuple(sheets))), [])
        self.assertEqual((self.hand.again(), self.hand.answer(), self.stage.disk.cells()), (before, None, {"life": 1}))

    def test_parted_from_the_hands_own_looks(self):
        # The hand fell behind taking the look (0, 1, 0); now a sheet of hand 2 tells (0, 0, 1).
        sheets, looks = self.parted_sheets()
        self.fall_behind(sheets[0], (0, 1, 0))
        (own,) = self.stage.disk.read("looks")
        self.hand.call(0)
        cells = self.stage.disk.cells()
        papers = named(self.stage.trust, (3, 4, 1), span_of(looks[3]), span_of(own))
        self.check_lied(self.stage.have(2, (0, 1, 2), (sheets[1], sheets[3])), papers, cells)

    def test_looks_in_sheets_come_ahead_of_the_hands_own(self):
        # The look of the one sheet is parted from that of the other, and from the hand's own (0, 1, 0) as well.
        sheets, looks = self.parted_sheets()
        self.fall_behind(sheets[0], (0, 1, 0))
        one, two = self.sheet(1, 2, (0, 1, 1)), self.sheet(2, 2, (1, 0, 1))
        mine = self.sheet(0, 1, (0, 0, 0))
        self.hand.call(0)
        cells = self.stage.disk.cells()
        papers = named(self.stage.trust, (3, 4, 1), *[span_of(self.book.trust.content(name)[5][0]) for name in (one, two)])
        self.check_lied(self.stage.have(3, (1, 2, 2), (mine, sheets[1], one, two)), papers, cells)

    def test_the_look_that_is_taken_is_parted_from_one_in_a_sheet(self):
        # Sheets of hand 1 tell (0, 1, 0); the hand is shown (0, 0, 1), and not that sheet, in its own row.
        sheets, looks = self.parted_sheets()
        self.hand.call(0)
        self.hand.hear(self.stage.have(3, (0, 0, 1), (sheets[1], sheets[0], sheets[2])))
        self.stage.collect([(0, 0, 1), (0, 0, 1)], (), (0, 1))
        self.stage.keep((0, 0, 1))
        kept = self.stage.disk.read("last")[1]
        letter = self.last_answer([(0, 0, 1)] * 3)
        cells = self.stage.disk.cells()
        had = tuple(sorted(self.book.pasts[s][-1] for s in range(3)))
        mine = ((0, 0, 1), kept, had)
        self.assertIs(is_look(self.stage.trust, (3, 4, 1), mine), True)
        self.check_lied(letter, named(self.stage.trust, (3, 4, 1), span_of(looks[2]), span_of(mine)), cells)

    def test_the_first_parted_pair(self):
        # Of the looks hand by hand, sheet by sheet, as they stand there; the first that does not go with those ahead.
        zero = self.book.look((0, 0, 0))
        one = self.book.sheet(1, 1, (zero, self.book.look((0, 0, 1))))
        two = self.book.sheet(2, 1, (zero,))
        three = self.book.sheet(2, 2, (self.book.look((0, 0, 1)), self.book.look((0, 1, 1))))
        four = self.book.sheet(1, 2, (self.book.look((0, 1, 0)), self.book.look((0, 1, 2))))
        self.hand.call(0)
        looks = [look for name in (one, four, two, three) for look in self.book.trust.content(name)[5]]
        self.assertEqual([look[0] for look in looks], [(0, 0, 0), (0, 0, 1), (0, 1, 0), (0, 1, 2), (0, 0, 0), (0, 0, 1), (0, 1, 1)])
        papers = named(self.stage.trust, (3, 4, 1), span_of(looks[1]), span_of(looks[2]))
        others = named(self.stage.trust, (3, 4, 1), span_of(looks[2]), span_of(looks[5]))
        self.assertNotEqual(papers, others)
        self.check_lied(self.stage.have(0, (0, 2, 2), (one, two, three, four)), papers, {"life": 1})

    def test_a_lent_look_that_lacks_the_last_row(self):
        # Hand 0 told a sheet; hand 1 was shown looks without it.
        self.stage.whole_call(0, (0, 0, 0))
        row, kept = self.stage.disk.read("last")
        self.assertEqual(row, (1, 0, 0))
        sheets = [self.sheet(1, k + 1, (0, k, 0)) for k in range(2)]
        self.hand.call(0)
        self.stage.collect([(1, 0, 0), (1, 1, 0), (1, 0, 0)], tuple(sheets), (1, 2, 3))
        had = tuple(sorted(self.book.pasts[s][-1] for s in (1, 2, 3)))
        self.stage.keep((1, 1, 0))
        self.assertEqual(self.stage.disk.read("last")[0], (1, 1, 0))
        self.stage.collect([(1, 1, 0), (1, 1, 0), (1, 2, 0)], tuple(sheets))
        self.stage.keep((1, 2, 0))
        more = self.sheet(1, 3, (0, 2, 0))
        letter = self.last_answer([(1, 3, 0)] * 3, (more,))
        cells = self.stage.disk.cells()
        lent = self.book.trust.content(more)[5][0]
        one = (row, (1, 1, 0), kept, had)
        papers = named(self.stage.trust, (3, 4, 1), one, span_of(lent))
        self.assertIs(are_parted(self.stage.trust, (3, 4, 1), one, span_of(lent)), True)
        self.check_lied(letter, papers, cells)


class Telling(unittest.TestCase):
    def setUp(self):
        self.stage = Stage(STORE)
        self.hand = self.stage.up()

    def fallen(self, fuse):
        """A call that falls at the write behind so many more than "life"; what was written."""
        stage = Stage(STORE)
        stage.disk = Disk({}, fuse + 1)
        stage.up()
        with self.assertRaises(Fell):
            stage.whole_call(0, (0, 0))
        return stage

    def test_the_sequence_of_writes(self):
        # "last" behind telling back; "looks" and "sheet" with the look; "last", "stock", "looks", "sheet" at the end.
        held = [{}, {"last": (0, 0)}, {"last": (0, 0), "looks": 1}, {"last": (0, 0), "looks": 1, "sheet": 1}]
        held += [{**held[3], "last": (1, 0)}, {**held[3], "last": (1, 0), "stock": (1, 0)},
                 {**held[3], "last": (1, 0), "stock": (1, 0), "looks": 0}]
        for fuse, told in enumerate(held):
            cells = self.fallen(fuse).disk.cells()
            self.assertEqual(cells.pop("life"), 1)
            marks = {"last": lambda value: value[0], "stock": row_of, "looks": len, "sheet": lambda name: 1}
            self.assertEqual({cell: marks[cell](value) for cell, value in cells.items()}, told, fuse)

    def test_falling_at_each_write(self):
        for fuse in range(7):
            stage = self.fallen(fuse)
            self.check_goes_on(stage, stage.back(), fuse)

    def test_falling_again_amid_coming_up(self):
        for fuse in range(7):
            for again in range(4):
                stage = self.fallen(fuse)
                try:
                    stage.back(again)
                    if stage.hand.again():
                        stage.keep((1, 0))
                except Fell:
                    pass
                told = stage.disk.read("stock") not in (None, ((), ()))
                ended = told and stage.disk.read("sheet") is None
                hand = stage.back()
                if ended:
                    self.assertEqual((hand.again(), hand.answer(), stage.disk.read("looks")), ([], None, ()))
                else:
                    self.check_goes_on(stage, hand, 5 if told else fuse)

    def check_goes_on(self, stage, hand, fuse):
        """The call has an end exactly if its sheet was written."""
        if fuse < 3:
            self.assertEqual((hand.again(), hand.answer(), stage.disk.read("sheet")), ([], None, None))
            self.assertEqual(stage.whole_call(2, (0, 0)), ("done", 0))
        elif fuse < 5:
            sheet = stage.disk.read("sheet")
            self.assertIs(is_sheet(stage.trust, STORE, 0, sheet), True)
            self.assertIsNone(hand.answer())
            letters = hand.again()
            self.assertEqual([letter[2] for letter in letters], [("keep", hand.life, 1, (sheet,))] * 4)
            with self.assertRaises(Busy):
                hand.call(0)
            stage.keep((1, 0))
            self.assertEqual((hand.answer(), stage.disk.read("stock")), (("done", 0), ((sheet,), ())))
        else:
            self.assertEqual((hand.again(), hand.answer()), ([], ("done", 0)))
            self.assertEqual((stage.disk.read("looks"), stage.disk.read("sheet")), ((), None))
        if fuse >= 3:
            self.assertEqual(stage.whole_call(2, (1, 0)), ("done", 1))
        self.assertIs(is_stock(stage.trust, STORE, stage.disk.read("stock")), True)
        self.assertEqual(len(numbers_sealed(stage.trust)), len(set(numbers_sealed(stage.trust))))

    def test_the_answer_of_a_sheet_that_was_told(self):
        # The hand fell ahead of None in "sheet"; looks were cleared already, so only None is written.
        stage = self.fallen(6)
        self.assertEqual(stage.disk.read("looks"), ())
        stage.back(2)
        self.assertEqual((stage.disk.fuse, stage.hand.answer()), (0, ("done", 0)))
        stage = self.fallen(5)
        stage.back(3)
        self.assertEqual((stage.disk.fuse, stage.hand.answer()), (0, ("done", 0)))
        stage = self.fallen(5)
        for fuse in (1, 2):
            with self.assertRaises(Fell):
                stage.back(fuse)
        self.assertEqual(stage.back(2).answer(), ("done", 0))
        self.assertIsNone(stage.back().answer())

    def test_a_sheet_is_written_ahead_of_the_seal(self):
        stage = self.fallen(2)
        self.assertEqual(numbers_sealed(stage.trust), [])
        stage = self.fallen(3)
        self.assertEqual(numbers_sealed(stage.trust), [(0, 1)])

    def test_a_sheet_that_is_written_and_not_sealed(self):
        stage = self.fallen(3)
        content = stage.trust.content(stage.disk.read("sheet"))
        other = Stage(STORE)
        look = other.book.look((0, 0))
        name = other.trust.name((*content[:5], (look,)))
        other.disk = Disk({"life": 1, "looks": (look,), "last": look[:2], "sheet": name}, None)
        self.assertIs(is_sheet(other.trust, STORE, 0, name), False)
        other.up()
        self.assertIs(is_sheet(other.trust, STORE, 0, name), True)
        other.keep((1, 0))
        self.assertEqual(other.hand.answer(), ("done", content[4]))

    def test_told_on_to_all_from_noughts_on(self):
        # Behind coming up each house is told all up to the row of the sheet.
        stage = Stage(STORE, number=1)
        book = stage.book
        one = book.sheet(0, 1, (book.look((0, 0)),))
        two = book.sheet(0, 2, (book.look((1, 0)),))
        stage.disk = Disk({}, 5)
        stage.up()
        stage.hand.call(0)
        stage.collect([(2, 0), (0, 0), (1, 0)], (one, two))
        stage.keep((2, 0))
        letters = stage.collect([(2, 0), (1, 0), (2, 0)], (), (0, 1, 3))
        sheet = stage.disk.read("sheet")
        self.assertEqual([letter[2][3] for letter in letters], [(sheet,), (two, sheet), (one, two, sheet), (sheet,)])
        with self.assertRaises(Fell):
            stage.keep((2, 1))
        stage.back()
        self.assertEqual([letter[2] for letter in stage.hand.again()], [("keep", 2, 1, (one, two, sheet))] * 4)

    def test_answers_stay_till_the_next_call(self):
        self.stage.whole_call(0, (0, 0))
        self.assertEqual(self.hand.answer(), ("done", 0))
        self.hand.hear(None)
        self.assertEqual(self.hand.answer(), ("done", 0))
        self.hand.call(2)
        self.assertIsNone(self.hand.answer())
        self.stage.collect((1, 0))
        self.assertIsNone(self.hand.answer())
        self.stage.keep((2, 0))
        self.assertEqual(self.hand.answer(), ("done", 1))

    def test_turns_count_the_rounds_of_a_life(self):
        turns = []
        self.stage.hand.call(0)
        for _ in range(3):
            turns.append(self.stage.hand.again()[0][2][:3])
            word = turns[-1][0]
            self.stage.collect((0, 0)) if word == "ask" else self.stage.keep((0, 0))
        turns.append(self.stage.hand.again()[0][2][:3])
        self.stage.keep((1, 0))
        self.stage.hand.call(0)
        turns.append(self.stage.hand.again()[0][2][:3])
        self.assertEqual(turns, [("ask", 1, 1), ("keep", 1, 2), ("ask", 1, 3), ("keep", 1, 4), ("ask", 1, 5)])
        self.stage.back().call(0)
        self.assertEqual(self.stage.hand.again()[0][2][:3], ("ask", 2, 1))


class Tables(unittest.TestCase):
    def test_each_hand_answers_at_its_own_look(self):
        # Hand 1 begins ahead of hand 0's deed, and takes its look behind it.
        town = Town((2, 4, 1), counting_table(5))
        first = town.hands[1].call(2)
        self.assertEqual(town.call(0, 0), ("done", 0))
        town.finish(first)
        self.assertEqual(town.hands[1].answer(), ("done", 1))

    def test_of_two_that_are_under_way_at_once(self):
        town = Town((2, 4, 1), counting_table(5))
        letters = [town.hands[0].call(0), town.hands[1].call(0)]
        while any(letters):
            letters = [town.round(part) for part in letters]
        self.assertEqual([hand.answer() for hand in town.hands], [("done", 0)] * 2)
        self.assertEqual([town.call(number, 2) for number in (1, 0)], [("done", 2)] * 2)


if __name__ == "__main__":
    unittest.main()
