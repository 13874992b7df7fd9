"""Histories of one cell in which each state is set once: judged without a search."""

from seenatonce.checks import is_number
from seenatonce.errors import BadMany, NotPlain
from seenatonce.histories import check_history, goes_ahead
from seenatonce.tables import cells_table, check_state

MOST_VALUES = 11
# An end above all moments.
NO_END = 1000000000000000000


def _check_cell(many, begin, history):
    if not is_number(many) or not 1 <= many <= MOST_VALUES:
        raise BadMany("no number of states of a cell: from 1 to 11")
    table = cells_table(1, many)
    check_state(table, begin)
    check_history(table, history)
    sets = [deed for _, _, _, deed, _ in history if deed != many]
    if begin in sets or len(set(sets)) != len(sets):
        raise NotPlain("a state is set twice, or the first one is set")


def _setters(many, history):
    """For each state that is set, the place of the call that sets it."""
    return {deed: place for place, (_, _, _, deed, _) in enumerate(history) if deed != many}


def _tells(many, history):
    """The places of the tells that are not open."""
    return [place for place, (_, _, end, deed, _) in enumerate(history) if deed == many and end is not None]


def _first_answered(many, history):
    """The least place of a call that sets with another answer than 0; None if there is none."""
    wrong = [place for place, (_, _, end, deed, answer) in enumerate(history)
             if deed != many and end is not None and answer != 0]
    return wrong[0] if wrong else None


def _first_unset(many, begin, history):
    """The least place of a tell of a state that no call sets, or that a call sets behind it; None if there is none."""
    setters = _setters(many, history)
    for place in _tells(many, history):
        state = history[place][4]
        if state != begin and (state not in setters or goes_ahead(history[place], history[setters[state]])):
            return place
    return None


def _lots(many, begin, history):
    """For each state, ascending, its lot: triples (begin, end, place) of the call that sets it and of its tells."""
    # The call that sets the first state begins and ends below all moments.
    lots = {begin: [(-2, -1, None)]}
    tells = _tells(many, history)
    told = [history[place][4] for place in tells]
    for state, place in _setters(many, history).items():
        _, start, end, _, _ = history[place]
        if end is not None or state in told:
            lots[state] = [(start, NO_END if end is None else end, place)]
    for place in tells:
        _, start, end, _, state = history[place]
        lots[state].append((start, end, place))
    return {state: lots[state] for state in sorted(lots)}


def _span(lot):
    """The pair of the least end and the greatest begin in a lot."""
    return (min([end for _, end, _ in lot]), max([start for start, _, _ in lot]))


def _straight_and_turned(lots):
    """The straight spans and the turned ones, by their states, each from its lesser to its greater moment."""
    spans = {state: _span(lot) for state, lot in lots.items()}
    straight = {state: (end, start) for state, (end, start) in spans.items() if end < start}
    turned = {state: (start, end) for state, (end, start) in spans.items() if end >= start}
    return straight, turned


def _lot_clash(lots):
    """The first clash of two lots; None if there is none."""
    straight, turned = _straight_and_turned(lots)
    for v, (low, high) in straight.items():
        for w, (least, greatest) in straight.items():
            if v < w and max(low, least) <= min(high, greatest):
                return ("both", v, w)
    for v, (low, high) in turned.items():
        for w, (least, greatest) in straight.items():
            if least <= low and high <= greatest:
                return ("within", v, w)
    return None


def _clash(many, begin, history):
    place = _first_answered(many, history)
    if place is not None:
        return ("answer", place)
    place = _first_unset(many, begin, history)
    if place is not None:
        return ("unset", place)
    return _lot_clash(_lots(many, begin, history))


def clash_of(many, begin, history):
    """None if the plain history of the cell has an order; otherwise why it has none."""
    _check_cell(many, begin, history)
    return _clash(many, begin, history)


def _point(state, straight, turned):
    """Where the lot of a state stands in an order: a pair of a moment and, just behind that moment, 1."""
    if state in straight:
        return (straight[state][0], 0)
    low, _ = turned[state]
    # All calls of a turned lot are under way from its span's begin to its end: it may stand anywhere there outside of
    # the straight spans. If it begins within one of them, it reaches beyond that one's end.
    ends = [greatest for least, greatest in straight.values() if least <= low <= greatest]
    return (ends[0], 1) if ends else (low, 0)


def cell_order(many, begin, history):
    """An order of the plain history of the cell; None if there is none."""
    _check_cell(many, begin, history)
    if _clash(many, begin, history) is not None:
        return None
    lots = _lots(many, begin, history)
    straight, turned = _straight_and_turned(lots)
    order = []
    for _, state in sorted([(_point(state, straight, turned), state) for state in lots]):
        setter, tells = lots[state][0], sorted(lots[state][1:])
        order.extend([place for _, _, place in [setter] + tells if place is not None])
    return order
