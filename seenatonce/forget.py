"""What may be forgotten of a lot, whatever comes, and what is left of it."""

from seenatonce.checks import below, is_place
from seenatonce.errors import BadHand, StillHeld
from seenatonce.lots import check_lot, check_row_in, deeds_of, item_of, rows_of_looks, up_to
from seenatonce.rows import common, joined
from seenatonce.tables import check_state
from seenatonce.webs import check_served, state_behind


def _least_next(lot, hand):
    many = len(lot[hand])
    # All rows lie on one line: a look that has all deeds of the hand may come behind the next one.
    rows = [row for row in rows_of_looks(lot) if row[hand] < many]
    least = joined([(0,) * len(lot)] + rows)
    return least[:hand] + (many,) + least[hand + 1:]


def least_next(table, lot, hand):
    """The row that is below the looks of all further deeds of the hand, and that of one of them."""
    check_lot(table, lot)
    if not is_place(hand, len(lot)):
        raise BadHand("no hand of the lot")
    return _least_next(lot, hand)


def _look_of(lot, deed):
    """The row of the look of a deed."""
    _, _, row = item_of(lot, deed)
    return row


def _beyond(lot, row):
    """The ascending list of the deeds that the row does not reach."""
    return [(hand, number) for hand, number in deeds_of(lot) if number > row[hand]]


def _holder(lot, row):
    for hand, number in _beyond(lot, row):
        if not below(row, _look_of(lot, (hand, number))):
            return ("deed", hand, number)
    for hand in range(len(lot)):
        seen = _least_next(lot, hand)
        if not below(row, seen):
            return ("look", hand, seen)
    return None


def holder_of(table, lot, row):
    """What holds the row: a deed, or a look to come, that need not see the whole row; None if it may be forgotten."""
    check_lot(table, lot)
    check_row_in(lot, row)
    return _holder(lot, row)


def forgettable(table, lot):
    """The greatest row that may be forgotten."""
    check_lot(table, lot)
    row = common([_least_next(lot, hand) for hand in range(len(lot))])
    held = None
    while held != row:
        held = row
        # A deed beyond the row is beyond all rows below it, too: such a row may be forgotten only if the deed sees it.
        row = common([held] + [_look_of(lot, deed) for deed in _beyond(lot, held)])
    return row


def _less(row, other):
    """The row less another one, item by item."""
    return tuple([many - less for many, less in zip(row, other)])


def _rest(lot, row):
    """The deeds of a lot beyond the row, their looks' rows less the row."""
    return tuple([tuple([(deed, answer, _less(seen, row)) for deed, answer, seen in items[many:]])
                  for items, many in zip(lot, row)])


def folded(table, begin, lot, row):
    """A pair (state, rest): the state behind the deeds up to the row, and the lot of all others, less the row."""
    check_served(table)
    check_state(table, begin)
    check_lot(table, lot)
    check_row_in(lot, row)
    holder = _holder(lot, row)
    if holder is not None:
        raise StillHeld(holder)
    return (state_behind(table, begin, up_to(lot, row)), _rest(lot, row))
