"""Spans and looks: what so many houses told that they keep, and what they had behind that."""

from seenatonce.checks import ascends, below, is_row_for, is_tuple_of, need_of
from seenatonce.errors import BadSpan
from seenatonce.rows import joined
from seenatonce.sayings import about_in, house_in, is_told, row_in
from seenatonce.trust import check_book


def is_heard(trust, store, value):
    """Whether any value is a lot of heard sayings, in a book for a store."""
    if not is_tuple_of(value, need_of(store)) or not all([is_told(trust, store, name) for name in value]):
        return False
    return ascends(value) and len(set([house_in(trust, name) for name in value])) == len(value)


def is_kept(trust, store, low, value):
    """Whether any value is a lot of heard sayings about nothing that tell that their houses keep the row low."""
    if not is_heard(trust, store, value):
        return False
    return all([about_in(trust, name) == () and below(low, row_in(trust, name)) for name in value])


def is_had(trust, store, kept, value):
    """Whether any value is a lot of heard sayings about those of the lot kept."""
    return is_heard(trust, store, value) and all([about_in(trust, name) == kept for name in value])


def row_had(trust, had):
    """The joined row of heard sayings."""
    return joined([row_in(trust, name) for name in had])


def _is_span(trust, store, value):
    """Whether a tuple of four values is a span, in a book for a store."""
    hands = store[0]
    low, high, kept, had = value
    if not is_row_for(low, hands) or not is_row_for(high, hands) or not below(low, high):
        return False
    if not is_kept(trust, store, low, kept) or not is_had(trust, store, kept, had):
        return False
    return row_had(trust, had) == high


def is_span(trust, store, value):
    """Whether any value is a span (low, high, kept, had)."""
    check_book(trust, store)
    return is_tuple_of(value, 4) and _is_span(trust, store, value)


def span_of(look):
    """The span of a look."""
    row, kept, had = look
    return (row, row, kept, had)


def is_look(trust, store, value):
    """Whether any value is a look (row, kept, had)."""
    check_book(trust, store)
    return is_tuple_of(value, 3) and _is_span(trust, store, span_of(value))


def check_two_spans(trust, store, one, other):
    """BadSpan for one and for other, if they are no spans."""
    if not is_span(trust, store, one):
        raise BadSpan("one is no span")
    if not is_span(trust, store, other):
        raise BadSpan("other is no span")


def are_parted(trust, store, one, other):
    """Whether the low of neither span is below the high of the other one."""
    check_two_spans(trust, store, one, other)
    return not below(one[0], other[1]) and not below(other[0], one[1])
