"""Orders of histories: sequences of calls that keep time, in which one plain object gives all answers."""

from seenatonce.errors import TooMany
from seenatonce.histories import are_places, beginning, check_history, goes_ahead
from seenatonce.tables import check_state, check_table

MOST_SOUGHT = 14


def _check_begun(table, begin, history):
    check_table(table)
    check_state(table, begin)
    check_history(table, history)


def _check_sought(table, begin, history):
    _check_begun(table, begin, history)
    if len(history) > MOST_SOUGHT:
        raise TooMany(MOST_SOUGHT)


def _keeps_time(history, places):
    """Whether of each two calls, where one is ahead of the other, it stands ahead in the places."""
    pairs = [(one, other) for k, other in enumerate(places) for one in places[:k]]
    return not any([goes_ahead(history[other], history[one]) for one, other in pairs])


def _behind(table, state, call):
    """The state behind a call that is done at a state; None if the call has another answer there."""
    _, _, end, deed, told = call
    behind, answer = table[deed][state]
    return behind if end is None or answer == told else None


def is_order(table, begin, history, value):
    """Whether any value is an order of the history: a list of places that keeps time and gives the answers."""
    _check_begun(table, begin, history)
    if not are_places(history, value) or not _keeps_time(history, value):
        return False
    state = begin
    for place in value:
        state = _behind(table, state, history[place])
        if state is None:
            return False
    return True


def _lot_of_places(places):
    """Some places as one number: the sum of 2 ** place."""
    return sum([1 << place for place in places])


def _lots_ahead(history):
    """For each call the lot of the calls that are ahead of it."""
    places = range(len(history))
    return [_lot_of_places([place for place in places if goes_ahead(history[place], call)]) for call in history]


def _ways(table, begin, history):
    """For each lot of calls that can be done, and each state behind it, a list of places that leads there."""
    ahead = _lots_ahead(history)
    found = {}
    layer = {(0, begin): []}
    while layer:
        further = {}
        for (lot, state), way in layer.items():
            found[(lot, state)] = way
            for place, call in enumerate(history):
                if not lot & (1 << place) and lot & ahead[place] == ahead[place]:
                    behind = _behind(table, state, call)
                    if behind is not None:
                        further.setdefault((lot | (1 << place), behind), way + [place])
        layer = further
    return found


def _orders(table, begin, history):
    """Pairs of an order and the state in which it ends: one for each lot of calls in an order and each such state."""
    ended = _lot_of_places([place for place, (_, _, end, _, _) in enumerate(history) if end is not None])
    found = _ways(table, begin, history)
    return [(way, state) for (lot, state), way in found.items() if lot & ended == ended]


def order_of(table, begin, history):
    """An order of the history; None if there is none."""
    _check_sought(table, begin, history)
    orders = _orders(table, begin, history)
    return orders[0][0] if orders else None


def states_behind(table, begin, history):
    """The ascending list of all states in which orders of the history end."""
    _check_sought(table, begin, history)
    return sorted(set([state for _, state in _orders(table, begin, history)]))


def first_wrong(table, begin, history):
    """The least moment whose beginning of the history has no order; None if the history has one."""
    _check_sought(table, begin, history)
    # Only an end tells an answer: so each least moment is one.
    for moment in sorted([end for _, _, end, _, _ in history if end is not None]):
        if not _orders(table, begin, beginning(table, history, moment)):
            return moment
    return None
