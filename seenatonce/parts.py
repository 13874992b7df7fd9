"""Parts: the histories of two objects beside one another, split and put together."""

from seenatonce.errors import BadOrder
from seenatonce.histories import check_history, goes_ahead
from seenatonce.orders import is_order
from seenatonce.tables import check_state, product


def _part(history, first, behind):
    """The places of the calls of the deeds from first on, up to behind, and these calls with the deeds less first."""
    places = [place for place, (_, _, _, deed, _) in enumerate(history) if first <= deed < behind]
    calls = [history[place] for place in places]
    return (tuple(places), [(hand, begin, end, deed - first, answer) for hand, begin, end, deed, answer in calls])


def _split(one, other, history):
    many = len(one)
    return (_part(history, 0, many), _part(history, many, many + len(other)))


def split_history(one, other, history):
    """A pair of pairs: the places of the calls of each part, and the part's history."""
    check_history(product(one, other), history)
    return _split(one, other, history)


def _may_lead(history, place, others):
    """Whether none of the calls that are left in the other list is ahead of this one."""
    return not any([goes_ahead(history[other], history[place]) for other in others])


def _woven(history, first, second):
    """One list of two lists of places that keep time, which keeps time as well."""
    order = []
    while first and second:
        # One of the two heads always can be taken, as both lists keep time.
        if _may_lead(history, first[0], second):
            order.append(first[0])
            first = first[1:]
        else:
            order.append(second[0])
            second = second[1:]
    return order + first + second


def joined_order(one, other, begin, history, first, second):
    """An order of the history for the product, made of the orders of its two parts."""
    table = product(one, other)
    check_state(table, begin)
    check_history(table, history)
    (places, part), (others, rest) = _split(one, other, history)
    many = len(other[0])
    if not is_order(one, begin // many, part, first):
        raise BadOrder("first is no order of the first part")
    if not is_order(other, begin % many, rest, second):
        raise BadOrder("second is no order of the second part")
    return _woven(history, [places[k] for k in first], [others[k] for k in second])
