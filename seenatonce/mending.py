"""The cells that a hand keeps on its disk, and what they hold when the hand has come up."""

from seenatonce.checks import check_store, is_place
from seenatonce.disks import check_disk
from seenatonce.errors import BadHand
from seenatonce.sheets import no_sheets, number_of_sheet
from seenatonce.trust import check_book


def _held(disk, cell, empty):
    """What the disk holds in the cell, or what an empty one holds."""
    held = disk.read(cell)
    return empty if held is None else held


def cells_of(store, disk):
    """The dict of the five cells of a hand and what the disk holds in them."""
    check_store(store)
    check_disk(disk)
    empty = {"life": 0, "stock": no_sheets(store), "looks": (), "last": None, "sheet": None}
    return {cell: _held(disk, cell, empty[cell]) for cell in empty}


def check_hand(store, number):
    """BadHand for what is no number of a hand of the store."""
    if not is_place(number, store[0]):
        raise BadHand("no hand of the store")


def mended(trust, store, hand, cells):
    """What the cells hold when the hand has come up: a new dict."""
    check_book(trust, store)
    check_hand(store, hand)
    rest = dict(cells)
    rest["life"] = cells["life"] + 1
    sheet = cells["sheet"]
    if sheet is not None and number_of_sheet(trust, sheet) <= len(cells["stock"][hand]):
        # The sheet was told to its end; the hand fell ahead of the last writes.
        rest["sheet"] = None
        rest["looks"] = ()
    return rest
