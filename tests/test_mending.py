"""Point 60: the cells of a hand, and what they hold when it has come up."""

import unittest

from seenatonce.disks import Disk
from seenatonce.errors import BadDisk, BadHand, BadStore, BadTrust
from seenatonce.mending import cells_of, mended
from tests.helpers import Book, check_refused, check_sequence, odd_values
from tests.test_sayings import NO_STORE, NO_TRUST
from tests.test_sheets import two_hands

STORE = (2, 4, 1)
EMPTY = {"life": 0, "stock": ((), ()), "looks": (), "last": None, "sheet": None}


class Cells(unittest.TestCase):
    def test_an_empty_disk(self):
        for hands in range(1, 7):
            self.assertEqual(cells_of((hands, 4, 1), Disk({}, None)), {**EMPTY, "stock": ((),) * hands})
        self.assertEqual(cells_of(store=STORE, disk=Disk({"other": 5}, 0)), EMPTY)

    def test_what_the_disk_holds(self):
        book, stock = two_hands()
        look = book.look((1, 1))
        held = {"life": 7, "stock": stock, "looks": (look,), "last": ((2, 2), look[1]), "sheet": stock[0][0]}
        self.assertEqual(cells_of(STORE, Disk(held, None)), held)
        for cell, value in held.items():
            disk = Disk({cell: value, "past": 9}, 0)
            self.assertEqual(cells_of(STORE, disk), {**EMPTY, cell: value})
            self.assertEqual((disk.cells(), disk.fuse), ({cell: value, "past": 9}, 0))

    def test_the_dict_is_new(self):
        disk = Disk({"life": 3}, None)
        cells_of(STORE, disk)["life"] = 4
        self.assertEqual(cells_of(STORE, disk)["life"], 3)

    def test_errors(self):
        args = [STORE, Disk({}, None)]
        check_refused(self, BadStore, cells_of, args, 0, NO_STORE)
        check_refused(self, BadDisk, cells_of, args, 1, [*odd_values(), Disk, EMPTY])
        check_sequence(self, cells_of, args, [(0, None, BadStore), (1, None, BadDisk)])


class Mending(unittest.TestCase):
    def setUp(self):
        self.book, self.stock = two_hands()
        self.looks = (self.book.look((1, 1)), self.book.look((1, 2)))
        self.last = ((1, 2), self.looks[1][1])

    def cells(self, many, sheet):
        return {"life": 2, "stock": (self.stock[0][:many], self.stock[1]), "looks": self.looks, "last": self.last, "sheet": sheet}

    def test_an_empty_disk(self):
        self.assertEqual(mended(self.book.trust, STORE, 0, EMPTY), {**EMPTY, "life": 1})

    def test_a_sheet_above_the_hands_own_sheets_stays(self):
        first, second = self.stock[0]
        for many, sheet in ((0, first), (1, second), (0, second), (2, None)):
            cells = self.cells(many, sheet)
            self.assertEqual(mended(self.book.trust, STORE, 0, cells), {**cells, "life": 3})

    def test_a_sheet_that_is_not_above_them_is_left_out(self):
        first, second = self.stock[0]
        for many, sheet in ((1, first), (2, second), (2, first)):
            cells = self.cells(many, sheet)
            told = mended(trust=self.book.trust, store=STORE, hand=0, cells=cells)
            self.assertEqual(told, {**cells, "life": 3, "sheet": None, "looks": ()})
            self.assertEqual(cells, self.cells(many, sheet))

    def test_the_sheets_of_other_hands_do_not_count(self):
        # Hand 1 has two sheets in the stock, hand 0 has one.
        cells = {**self.cells(1, self.stock[1][1]), "stock": (self.stock[0], self.stock[1][:1])}
        self.assertEqual(mended(self.book.trust, STORE, 1, cells)["sheet"], self.stock[1][1])
        self.assertIsNone(mended(self.book.trust, STORE, 1, {**cells, "stock": ((), self.stock[1])})["sheet"])

    def test_a_sheet_that_is_not_sealed_as_yet(self):
        name = self.book.trust.name(("sheet", 0, 2, 0, 0, self.looks))
        self.assertEqual(mended(self.book.trust, STORE, 0, self.cells(1, name))["sheet"], name)
        self.assertIsNone(mended(self.book.trust, STORE, 0, self.cells(2, name))["sheet"])

    def test_twice_is_as_once_but_for_life(self):
        for many in range(3):
            for sheet in (None, *self.stock[0]):
                once = mended(self.book.trust, STORE, 0, self.cells(many, sheet))
                self.assertEqual(mended(self.book.trust, STORE, 0, once), {**once, "life": once["life"] + 1})

    def test_the_dict_is_new(self):
        cells = self.cells(1, None)
        mended(self.book.trust, STORE, 0, cells).clear()
        self.assertEqual(cells, self.cells(1, None))

    def test_errors(self):
        args = [Book(STORE).trust, STORE, 1, EMPTY]
        check_refused(self, BadTrust, mended, args, 0, NO_TRUST)
        check_refused(self, BadStore, mended, args, 1, NO_STORE)
        check_refused(self, BadHand, mended, args, 2, [*odd_values(), -1, 2, 10 ** 18, (), (0,)])
        check_sequence(self, mended, args, [(0, None, BadTrust), (1, None, BadStore), (2, True, BadHand)])


if __name__ == "__main__":
    unittest.main()
