"""Lots of deeds: which deeds the hands have done, and what each of them saw."""

from seenatonce.checks import MOST_HANDS, below, counts_from_one, is_count, is_place, is_row_for, is_tuple_of
from seenatonce.errors import BadLot, BadPair, BadRow
from seenatonce.rows import on_one_line
from seenatonce.sheets import answer_of_sheet, deed_of_sheet, is_closed, own_look, row_of
from seenatonce.tables import check_table, is_deed
from seenatonce.trust import check_book

MOST_ITEMS = 60


def item_of(lot, deed):
    """What a lot tells of a deed (hand, number)."""
    hand, number = deed
    return lot[hand][number - 1]


def deeds_of(lot):
    """The ascending list of all deeds of a lot."""
    return [(hand, k + 1) for hand, items in enumerate(lot) for k in range(len(items))]


def rows_of_looks(lot):
    """The rows of all looks in a lot, hand by hand."""
    return [row for items in lot for _, _, row in items]


def does_see(lot, one, other):
    """Whether the one deed of a lot sees the other one."""
    _, _, row = item_of(lot, one)
    hand, number = other
    return row[hand] >= number


def _is_item(table, hands, hand, number, value):
    """Whether any value tells of the deed of the hand with this number."""
    if not is_tuple_of(value, 3) or not is_deed(table, value[0]) or not is_count(value[1]):
        return False
    return is_row_for(value[2], hands) and value[2][hand] == number - 1


def _are_items(table, hands, hand, value):
    return all([_is_item(table, hands, hand, k + 1, item) for k, item in enumerate(value)])


def _is_lot(table, value):
    if not isinstance(value, tuple) or not 1 <= len(value) <= MOST_HANDS:
        return False
    if not all([isinstance(items, tuple) for items in value]) or sum(row_of(value)) > MOST_ITEMS:
        return False
    if not all([_are_items(table, len(value), hand, items) for hand, items in enumerate(value)]):
        return False
    rows = rows_of_looks(value)
    return on_one_line(rows) and all([below(row, row_of(value)) for row in rows])


def is_lot(table, value):
    """Whether any value is a lot for the table."""
    check_table(table)
    return _is_lot(table, value)


def check_lot(table, lot):
    """BadTable for what is no table, then BadLot for what is no lot for it."""
    if not is_lot(table, lot):
        raise BadLot("no lot for the table")


def in_order_of_looks(lot):
    """The list of all deeds of a lot in the order of looks."""
    keys = sorted([(sum(item_of(lot, deed)[2]), deed) for deed in deeds_of(lot)])
    return [deed for _, deed in keys]


def looks_order(table, lot):
    """The list of all deeds of the lot in the order of looks: by the sums of their rows, then by their hands."""
    check_lot(table, lot)
    return in_order_of_looks(lot)


def is_deed_in(lot, value):
    """Whether any value is a deed (hand, number) of a lot."""
    if not is_tuple_of(value, 2) or not is_place(value[0], len(lot)):
        return False
    return counts_from_one(value[1]) and value[1] <= len(lot[value[0]])


def sees(table, lot, one, other):
    """Whether the one deed of the lot sees the other one."""
    check_lot(table, lot)
    if not is_deed_in(lot, one):
        raise BadPair("one is no deed of the lot")
    if not is_deed_in(lot, other):
        raise BadPair("other is no deed of the lot")
    return does_see(lot, one, other)


def up_to(lot, row):
    """The deeds of a lot up to the row."""
    return tuple([items[:many] for many, items in zip(row, lot)])


def check_row_in(lot, row):
    """BadRow for what is no row below that of a lot."""
    if not is_row_for(row, len(lot)) or not below(row, row_of(lot)):
        raise BadRow("no row below that of the lot")


def within(table, lot, row):
    """The lot of the deeds up to the row, which is closed."""
    check_lot(table, lot)
    check_row_in(lot, row)
    held = up_to(lot, row)
    if not all([below(told, row) for told in rows_of_looks(held)]):
        raise BadRow("no closed row")
    return held


def _item_of_sheet(trust, name):
    return (deed_of_sheet(trust, name), answer_of_sheet(trust, name), own_look(trust, name)[0])


def lot_up_to(trust, stock, row):
    """What the sheets of a stock up to the row tell of their deeds."""
    return tuple([tuple([_item_of_sheet(trust, name) for name in sheets]) for sheets in up_to(stock, row)])


def lot_of(trust, store, table, stock, row):
    """The lot of the sheets of the stock up to the row, which is closed in it."""
    check_book(trust, store)
    check_table(table)
    if not is_closed(trust, store, stock, row):
        raise BadRow("no row that is closed in the stock")
    lot = lot_up_to(trust, stock, row)
    check_lot(table, lot)
    return lot
