"""Sheets that hands sealed, and stocks of them."""

from seenatonce.checks import below, check_row, counts_from_one, is_count, is_place, is_tuple_of
from seenatonce.errors import BadHand, BadStock
from seenatonce.rows import is_line, joined
from seenatonce.spans import is_look
from seenatonce.tables import MOST_DEEDS
from seenatonce.trust import check_book


def number_of_sheet(trust, name):
    """The number of a sheet."""
    return trust.content(name)[2]


def deed_of_sheet(trust, name):
    """The deed of a sheet."""
    return trust.content(name)[3]


def answer_of_sheet(trust, name):
    """The answer of a sheet."""
    return trust.content(name)[4]


def looks_of_sheet(trust, name):
    """The looks of a sheet."""
    return trust.content(name)[5]


def own_look(trust, name):
    """The own look of a sheet's deed, the last of its looks."""
    return looks_of_sheet(trust, name)[-1]


def _are_looks(trust, store, hand, number, value):
    """Whether any value is a tuple of looks for the sheet of the hand with this number."""
    if not isinstance(value, tuple) or not value or not all([is_look(trust, store, look) for look in value]):
        return False
    rows = tuple([look[0] for look in value])
    return is_line(rows) and all([row[hand] == number - 1 for row in rows])


def _is_sheet(trust, store, hand, name):
    """Whether any value is the name of a sheet of the hand, in a book for a store."""
    if not trust.is_name(name) or not is_tuple_of(trust.content(name), 6):
        return False
    word, writer, number, deed, answer, looks = trust.content(name)
    if word != "sheet" or writer != hand or not trust.sealed(("hand", hand), name):
        return False
    if not counts_from_one(number) or not is_place(deed, MOST_DEEDS) or not is_count(answer):
        return False
    return _are_looks(trust, store, hand, number, looks)


def is_sheet(trust, store, hand, name):
    """Whether any value is the name of a sheet of the hand."""
    check_book(trust, store)
    if not is_place(hand, store[0]):
        raise BadHand("no hand of the store")
    return _is_sheet(trust, store, hand, name)


def _are_sheets(trust, store, hand, value):
    """Whether any value is the tuple of the names of the sheets 1, 2, 3, .. of the hand."""
    if not isinstance(value, tuple) or not all([_is_sheet(trust, store, hand, name) for name in value]):
        return False
    return [number_of_sheet(trust, name) for name in value] == list(range(1, len(value) + 1))


def is_stock(trust, store, value):
    """Whether any value is a stock: for each hand the tuple of the names of its sheets."""
    check_book(trust, store)
    if not is_tuple_of(value, store[0]):
        return False
    return all([_are_sheets(trust, store, hand, sheets) for hand, sheets in enumerate(value)])


def check_stock(trust, store, stock):
    """BadTrust, BadStore, then BadStock for what is no stock."""
    if not is_stock(trust, store, stock):
        raise BadStock("no stock")


def row_of(stock):
    """How many sheets of each hand the stock has."""
    return tuple([len(sheets) for sheets in stock])


def no_sheets(store):
    """The stock without sheets."""
    return ((),) * store[0]


def noughts(store):
    """The row of all noughts."""
    return (0,) * store[0]


def sheets_between(stock, low, high):
    """The tuple of the names of the sheets above the row low up to the row high, hand by hand."""
    return tuple([name for sheets, had, many in zip(stock, low, high) for name in sheets[had:many]])


def looks_up_to(trust, stock, row):
    """The looks in the first sheets of each hand, as many as the row tells: hand by hand, as they stand there."""
    names = [name for many, sheets in zip(row, stock) for name in sheets[:many]]
    return [look for name in names for look in looks_of_sheet(trust, name)]


def looks_told(trust, stock):
    """The looks in all sheets of the stock, hand by hand, as they stand there."""
    return looks_up_to(trust, stock, row_of(stock))


def rows_told(trust, store, stock):
    """The ascending list, each once, of the rows of all looks in the sheets of the stock."""
    check_stock(trust, store, stock)
    return sorted(set([look[0] for look in looks_told(trust, stock)]))


def closes(trust, stock, row):
    """Whether a stock reaches the row, and the row is closed in it."""
    if not below(row, row_of(stock)):
        return False
    return all([below(look[0], row) for look in looks_up_to(trust, stock, row)])


def closed_above(trust, stock, row):
    """The least closed row of a stock that the row is below; None if the stock reaches none."""
    told = None
    while row != told and below(row, row_of(stock)):
        told = row
        row = joined([row] + [look[0] for look in looks_up_to(trust, stock, row)])
    return row if row == told else None


def is_closed(trust, store, stock, row):
    """Whether the stock reaches the row, and the rows of all looks in the sheets up to it are below it."""
    check_stock(trust, store, stock)
    check_row(store, row)
    return closes(trust, stock, row)


def _is_next(trust, store, hand, many, name):
    """Whether any value is the name of the sheet of the hand that comes behind so many."""
    # The number is looked at first: most sheets that come were taken in before, and to look at all of one takes long.
    if not trust.is_name(name) or not is_tuple_of(trust.content(name), 6) or number_of_sheet(trust, name) != many + 1:
        return False
    return _is_sheet(trust, store, hand, name)


def taken_in(trust, store, stock, names):
    """The stock into which the names are taken, those that are no next sheet of a hand being passed over."""
    lists = [list(sheets) for sheets in stock]
    for name in names:
        # A name that was put to one hand's sheets is none of another hand.
        for hand in range(store[0]):
            if _is_next(trust, store, hand, len(lists[hand]), name):
                lists[hand].append(name)
    return tuple([tuple(sheets) for sheets in lists])
