"""Sheets that hands sealed, and stocks of them."""

from seenatonce.checks import ascends, below, is_count, is_place, is_row_for, is_tuple_of
from seenatonce.errors import BadHand, BadRow, BadStock
from seenatonce.spans import is_look
from seenatonce.tables import MOST_DEEDS
from seenatonce.trust import check_book


def number_of_sheet(trust, name):
    """The number of a sheet."""
    return trust.content(name)[2]


def looks_of_sheet(trust, name):
    """The looks of a sheet."""
    return trust.content(name)[5]


def _are_looks(trust, store, hand, number, value):
    """Whether any value is a tuple of looks for the sheet of the hand with this number."""
    if not isinstance(value, tuple) or not value or not all([is_look(trust, store, look) for look in value]):
        return False
    rows = [look[0] for look in value]
    # A row that is below another one and unlike it is less in Python's order, too.
    if not ascends(rows) or not all([below(row, after) for row, after in zip(rows, rows[1:])]):
        return False
    return all([row[hand] == number - 1 for row in rows])


def _is_sheet(trust, store, hand, name):
    """Whether any value is the name of a sheet of the hand, in a book for a store."""
    if not trust.is_name(name) or not is_tuple_of(trust.content(name), 6):
        return False
    word, writer, number, deed, answer, looks = trust.content(name)
    if word != "sheet" or writer != hand or not trust.sealed(("hand", hand), name):
        return False
    if not is_count(number) or number == 0 or not is_place(deed, MOST_DEEDS) or not is_count(answer):
        return False
    return _are_looks(trust, store, hand, number, looks)


def is_sheet(trust, store, hand, name):
    """Whether any value is the name of a sheet of the hand."""
    check_book(trust, store)
    if not is_place(hand, store[0]):
        raise BadHand("no hand of the store")
    return _is_sheet(trust, store, hand, name)


def _are_sheets(trust, store, hand, value):
    """Whether any value is the tuple of the names of the sheets 1, 2, 3, .. of the hand."""
    if not isinstance(value, tuple) or not all([_is_sheet(trust, store, hand, name) for name in value]):
        return False
    return [number_of_sheet(trust, name) for name in value] == list(range(1, len(value) + 1))


def is_stock(trust, store, value):
    """Whether any value is a stock: for each hand the tuple of the names of its sheets."""
    check_book(trust, store)
    if not is_tuple_of(value, store[0]):
        return False
    return all([_are_sheets(trust, store, hand, sheets) for hand, sheets in enumerate(value)])


def _check_stock(trust, store, stock):
    if not is_stock(trust, store, stock):
        raise BadStock("no stock")


def row_of(stock):
    """How many sheets of each hand the stock has."""
    return tuple([len(sheets) for sheets in stock])


def _rows_up_to(trust, stock, row):
    """The rows of all looks in the first sheets of each hand, as many as the row tells."""
    names = [name for many, sheets in zip(row, stock) for name in sheets[:many]]
    return [look[0] for name in names for look in looks_of_sheet(trust, name)]


def rows_told(trust, store, stock):
    """The ascending list, each once, of the rows of all looks in the sheets of the stock."""
    _check_stock(trust, store, stock)
    return sorted(set(_rows_up_to(trust, stock, row_of(stock))))


def is_closed(trust, store, stock, row):
    """Whether the stock reaches the row, and the rows of all looks in the sheets up to it are below it."""
    _check_stock(trust, store, stock)
    if not is_row_for(row, store[0]):
        raise BadRow("no row")
    if not below(row, row_of(stock)):
        return False
    return all([below(told, row) for told in _rows_up_to(trust, stock, row)])
