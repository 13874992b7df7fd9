"""Webs of deeds: which deeds of a lot go ahead of which, and what comes of them."""

from seenatonce.checks import is_list, is_place
from seenatonce.errors import BadEdge, BadHand, BadRow, BadSequence, NotServed
from seenatonce.lots import check_lot, check_row_in, deeds_of, does_see, in_order_of_looks
from seenatonce.lots import is_deed_in, item_of, rows_of_looks
from seenatonce.rows import on_one_line
from seenatonce.tables import check_deed, check_state, check_table, does_overwrite, first_clash


def check_served(table):
    """BadTable for what is no table, then NotServed."""
    check_table(table)
    pair = first_clash(table)
    if pair is not None:
        one, other = pair
        raise NotServed(one, other)


def _check_web(table, lot):
    check_served(table)
    check_lot(table, lot)


def _check_begun(table, begin, lot):
    check_served(table)
    check_state(table, begin)
    check_lot(table, lot)


def _seen_edges(lot):
    """For each deed, in the order of looks, the list of the deeds that see it."""
    order = in_order_of_looks(lot)
    return {one: [other for other in order if does_see(lot, other, one)] for one in order}


def _wish(table, lot, old, new):
    """The edge (ahead, behind) that is wished for between two deeds; None if none is."""
    elder, newer = item_of(lot, old)[0], item_of(lot, new)[0]
    may_follow = does_overwrite(table, newer, elder)
    may_lead = does_overwrite(table, elder, newer)
    if may_follow and (not may_lead or new[0] > old[0]):
        return (old, new)
    return (new, old) if may_lead else None


def _wishes(table, lot):
    """The list of all edges that are wished for, in the sequence in which they are."""
    order = in_order_of_looks(lot)
    wishes = []
    for k, new in enumerate(order):
        wishes.extend([_wish(table, lot, old, new) for old in order[:k] if not does_see(lot, new, old)])
    return [edge for edge in wishes if edge is not None]


def _web(table, lot):
    """For each deed of a lot the list of the deeds to which it has an edge; and the list of the edges left out."""
    heads = _seen_edges(lot)
    omitted = []
    for ahead, behind in _wishes(table, lot):
        # Edges lead back exactly if the one that would be behind has an edge to a deed that the one ahead sees. This
        # never is so where an old deed is to be ahead of a new one.
        if any([does_see(lot, ahead, deed) for deed in heads[behind]]):
            omitted.append((ahead, behind))
        else:
            heads[ahead].append(behind)
    return (heads, omitted)


def edges(table, lot):
    """The ascending list of all edges (ahead, behind) of the web of the lot."""
    _check_web(table, lot)
    heads, _ = _web(table, lot)
    return sorted([(ahead, behind) for ahead in heads for behind in heads[ahead]])


def left_out(table, lot):
    """The ascending list of all edges (ahead, behind) that are wished for and left out."""
    _check_web(table, lot)
    _, omitted = _web(table, lot)
    return sorted(omitted)


def _way(heads, begin, end):
    """A shortest list of deeds from one to another, with an edge from each to the next one; None if there is none."""
    seen = {begin: True}
    ways = [[begin]]
    while ways:
        further = []
        for way in ways:
            if way[-1] == end:
                return way
            unseen = [deed for deed in heads[way[-1]] if deed not in seen]
            seen.update({deed: True for deed in unseen})
            further.extend([way + [deed] for deed in unseen])
        ways = further
    return None


def way_back(table, lot, one, other):
    """A shortest way by edges from other to one, for the edge (one, other) that is left out."""
    _check_web(table, lot)
    heads, omitted = _web(table, lot)
    if not is_deed_in(lot, one) or not is_deed_in(lot, other) or (one, other) not in omitted:
        raise BadEdge("no edge that is left out")
    return _way(heads, other, one)


def _next_deed(taken, waits):
    """The least deed that can stand next, of which no deed that is to stand ahead is left."""
    return [(hand, many + 1) for hand, many in enumerate(taken) if waits.get((hand, many + 1)) == 0][0]


def _sequence(lot, heads):
    """The sequence that takes, each time, the least deed that can stand next."""
    waits = {deed: 0 for deed in heads}
    for behind in heads.values():
        for deed in behind:
            waits[deed] += 1
    taken = [0] * len(lot)
    sequence = []
    while len(sequence) < len(waits):
        deed = _next_deed(taken, waits)
        sequence.append(deed)
        # A deed sees those of its hand ahead of it, so each hand's deeds are taken one behind another.
        taken[deed[0]] += 1
        for behind in heads[deed]:
            waits[behind] -= 1
    return sequence


def sequence_of(table, lot):
    """The sequence of the lot that takes, each time, the least deed that can stand next."""
    _check_web(table, lot)
    heads, _ = _web(table, lot)
    return _sequence(lot, heads)


def _is_sequence(table, lot, value):
    """Whether any value is a sequence of a lot."""
    if not is_list(value) or not all([is_deed_in(lot, deed) for deed in value]):
        return False
    if sorted(value) != deeds_of(lot):
        return False
    places = {deed: place for place, deed in enumerate(value)}
    heads, _ = _web(table, lot)
    return all([places[ahead] < places[behind] for ahead in heads for behind in heads[ahead]])


def is_sequence(table, lot, value):
    """Whether any value is a sequence of the lot: a list of all its deeds, in which all edges lead on."""
    _check_web(table, lot)
    return _is_sequence(table, lot, value)


def _led(table, begin, lot, deeds):
    """The pair of the state that is reached by these deeds of a lot and the list of their answers."""
    state = begin
    answers = []
    for deed in deeds:
        state, answer = table[item_of(lot, deed)[0]][state]
        answers.append(answer)
    return (state, answers)


def led_along(table, begin, lot, sequence):
    """The pair of the state that is reached along a sequence of the lot and the list of the table's answers."""
    _check_begun(table, begin, lot)
    if not _is_sequence(table, lot, sequence):
        raise BadSequence("no sequence of the lot")
    return _led(table, begin, lot, sequence)


def state_behind(table, begin, lot):
    """The state that is reached by all deeds of a lot for a served table."""
    heads, _ = _web(table, lot)
    return _led(table, begin, lot, _sequence(lot, heads))[0]


def state_of(table, begin, lot):
    """The state that is reached from begin along the sequence of the lot."""
    _check_begun(table, begin, lot)
    return state_behind(table, begin, lot)


def _due(table, begin, lot, sequence, deed, row):
    """The answer that is due to a deed whose look has the row."""
    # The web of the lot up to a closed row is what the whole web tells of its deeds, and all sequences of it end in
    # one state: so what is left of a sequence of the whole lot leads where its own one does.
    seen = [(hand, number) for hand, number in sequence if number <= row[hand]]
    state, _ = _led(table, begin, lot, seen)
    return table[deed][state][1]


def _answers_due(table, begin, lot):
    heads, _ = _web(table, lot)
    sequence = _sequence(lot, heads)
    return tuple([tuple([_due(table, begin, lot, sequence, deed, row) for deed, _, row in items]) for items in lot])


def answers_due(table, begin, lot):
    """For each hand the tuple of the answers that are due to its deeds, each at the state at its own look."""
    _check_begun(table, begin, lot)
    return _answers_due(table, begin, lot)


def is_borne(table, begin, lot):
    """Whether the deeds of the lot bear the answers that are due to them."""
    _check_begun(table, begin, lot)
    return _answers_due(table, begin, lot) == tuple([tuple([answer for _, answer, _ in items]) for items in lot])


def grown(table, begin, lot, hand, deed, row):
    """The lot with a further deed of the hand, whose look has the row, with the answer that is due."""
    _check_begun(table, begin, lot)
    if not is_place(hand, len(lot)):
        raise BadHand("no hand of the lot")
    check_deed(table, deed)
    check_row_in(lot, row)
    if row[hand] != len(lot[hand]) or not on_one_line([row] + rows_of_looks(lot)):
        raise BadRow("no row of a look of the next deed of the hand")
    heads, _ = _web(table, lot)
    answer = _due(table, begin, lot, _sequence(lot, heads), deed, row)
    return lot[:hand] + (lot[hand] + ((deed, answer, row),),) + lot[hand + 1:]
