"""Disks, on which hands and houses write, and which may fall at a write."""

from seenatonce.checks import is_count
from seenatonce.errors import BadCell, BadCells, BadContent, BadDisk, BadFuse, Fell
from seenatonce.trust import has_content_form


def _are_cells(value):
    if not isinstance(value, dict) or not all([isinstance(cell, str) for cell in value]):
        return False
    return all([has_content_form(held) for held in value.values()])


def _check_cell(cell):
    if not isinstance(cell, str):
        raise BadCell("no name of a cell")


class Disk:
    """Cells with a content each, and a fuse: how many writes there are ahead of a fall, None if there is no fall."""

    def __init__(self, cells, fuse):
        if not _are_cells(cells):
            raise BadCells("no dict from strings to contents")
        if fuse is not None and not is_count(fuse):
            raise BadFuse("no fuse: None or a number from 0 on")
        self.fuse = fuse
        self._held = dict(cells)

    def read(self, cell):
        """What the cell holds; None if nothing was ever written to it."""
        _check_cell(cell)
        return self._held.get(cell)

    def write(self, cell, value):
        """Writes the value to the cell, if the fuse lets it."""
        _check_cell(cell)
        if not has_content_form(value):
            raise BadContent("no content")
        if self.fuse == 0:
            raise Fell("the disk falls at this write")
        self._held[cell] = value
        if self.fuse is not None:
            self.fuse -= 1

    def cells(self):
        """The dict of what was written, its keys ascending."""
        return {cell: self._held[cell] for cell in sorted(self._held)}


def check_disk(disk):
    """BadDisk for what is no Disk."""
    if not isinstance(disk, Disk):
        raise BadDisk("no Disk")
