"""Point 52: disks, their cells and their fuse."""

import unittest

from seenatonce.disks import Disk
from seenatonce.errors import BadCell, BadCells, BadContent, BadFuse, Fell, SeenError
from seenatonce.trust import Trust
from tests.helpers import GREATEST, check_refused, check_sequence, deep

CONTENTS = [0, 1, -1, GREATEST, -GREATEST, "", "text", None, (), (0, "a", None), ("name", 3), (("name", GREATEST), ((),)),
            deep(60), ("name", -1)]
NO_CONTENT = [True, False, 10 ** 18, -10 ** 18, [], {}, [1], (1, [2]), ((True,),), (None, False), Trust(), SeenError("x"),
              (1, (2, ({},))), ("name", True), deep(60, list), ("name", 10 ** 18)]
NO_CELL = [None, 0, 1, True, (), ("a",), ["a"], {}, Trust()]


class Disks(unittest.TestCase):
    def test_what_is_written_is_read(self):
        disk = Disk({}, None)
        self.assertEqual(disk.cells(), {})
        self.assertIsNone(disk.read("cell"))
        for content in CONTENTS:
            self.assertIsNone(disk.write(cell="cell", value=content))
            self.assertEqual(disk.read(cell="cell"), content)
            self.assertEqual(disk.cells(), {"cell": content})
            self.assertIsNone(disk.read("Cell"))
        self.assertIsNone(disk.fuse)

    def test_it_begins_with_the_cells_that_are_passed(self):
        cells = {"b": (1, 2), "": None, "a": "x"}
        disk = Disk(cells=cells, fuse=None)
        self.assertEqual((disk.read("b"), disk.read(""), disk.read("a"), disk.read("c")), ((1, 2), None, "x", None))
        self.assertEqual(disk.cells(), cells)

    def test_the_dict_passed_is_copied(self):
        cells = {"a": 1}
        disk = Disk(cells, None)
        cells["a"] = 2
        cells["b"] = 3
        self.assertEqual(disk.cells(), {"a": 1})
        disk.write("a", 4)
        disk.write("c", 5)
        self.assertEqual(cells, {"a": 2, "b": 3})

    def test_the_dict_returned_is_new(self):
        disk = Disk({"a": 1}, None)
        told = disk.cells()
        told["a"] = 2
        told["b"] = 3
        self.assertEqual(disk.cells(), {"a": 1})
        self.assertIsNone(disk.read("b"))
        self.assertIsNot(disk.cells(), disk.cells())

    def test_keys_are_ascending(self):
        disk = Disk({"d": 0, "b": 1}, None)
        for cell in ("c", "", "a", "B", "d"):
            disk.write(cell, 2)
        self.assertEqual(list(disk.cells()), ["", "B", "a", "b", "c", "d"])

    def test_none_is_written_as_any_content(self):
        disk = Disk({"a": 1}, None)
        disk.write("a", None)
        disk.write("b", None)
        self.assertEqual(disk.cells(), {"a": None, "b": None})

    def test_fuses(self):
        for fuse in range(6):
            disk = Disk({"k": -1}, fuse)
            for k in range(fuse):
                self.assertEqual(disk.fuse, fuse - k)
                disk.write("k", k)
                self.assertEqual(disk.read("k"), k)
            for _ in range(3):
                with self.assertRaises(Fell) as caught:
                    disk.write("k", 99)
                self.assertIs(caught.exception.__class__, Fell)
                with self.assertRaises(Fell):
                    disk.write("new", 99)
                self.assertEqual(disk.fuse, 0)
                self.assertEqual(disk.cells(), {"k": fuse - 1})
        disk = Disk({}, GREATEST)
        disk.write("a", 0)
        self.assertEqual(disk.fuse, GREATEST - 1)
        disk = Disk({}, None)
        for k in range(50):
            disk.write("a", k)
        self.assertIsNone(disk.fuse)

    def test_reading_uses_no_fuse_up(self):
        disk = Disk({"a": 1}, 1)
        for _ in range(3):
            disk.read("a")
            disk.cells()
        self.assertEqual(disk.fuse, 1)

    def test_refusals_change_nothing(self):
        for fuse in (None, 0, 2):
            disk = Disk({"a": 1}, fuse)
            args = ["a", 2]
            check_refused(self, BadCell, disk.read, ["a"], 0, NO_CELL)
            check_refused(self, BadCell, disk.write, args, 0, NO_CELL)
            check_refused(self, BadContent, disk.write, args, 1, NO_CONTENT)
            check_sequence(self, disk.write, args, [(0, None, BadCell), (1, True, BadContent)])
            self.assertEqual((disk.fuse, disk.cells()), (fuse, {"a": 1}))

    def test_disks_are_refused(self):
        args = [{"a": 1}, 0]
        cells = [None, True, 0, "", "a", (), [], [("a", 1)], {0: 1}, {None: 1}, {"a": 1, 0: 2}, {True: 1}, {("a",): 1}, Trust(),
                 *[{"b": 0, "a": value} for value in NO_CONTENT]]
        check_refused(self, BadCells, Disk, args, 0, cells)
        check_refused(self, BadFuse, Disk, args, 1, [True, False, -1, 10 ** 18, "0", "", (), (0,), [], {}, Trust()])
        check_sequence(self, Disk, args, [(0, None, BadCells), (1, True, BadFuse)])
        for fuse in (None, 0, 1, GREATEST):
            self.assertEqual(Disk({}, fuse).fuse, fuse)
        for content in CONTENTS:
            self.assertEqual(Disk({"a": content}, None).read("a"), content)

    def test_disks_are_equal_to_no_other_values(self):
        for value in (None, 0, {}, (), "", Trust()):
            self.assertNotEqual(Disk({}, None), value)


if __name__ == "__main__":
    unittest.main()
