"""What the tests of lots and webs share: drawn served tables, drawn lots, and webs by the document's own words."""

from itertools import product

from seenatonce.tables import is_served
from tests.helpers import below

# The example by hand of [73]: deeds 0 and 1 put, 2 rounds, 3 exchanges, 4 tells.
EXAMPLE = (((0, 0), (0, 0), (0, 0), (0, 0)), ((2, 0), (2, 0), (2, 0), (2, 0)), ((0, 0), (0, 0), (3, 0), (3, 0)),
           ((1, 0), (0, 0), (3, 0), (2, 0)), ((0, 0), (1, 1), (2, 2), (3, 3)))


def look_of(states):
    return tuple((state, state) for state in range(states))


def drawn_deed(draw, states, exchange):
    """A deed that puts, keeps, exchanges, raises, or does anything."""
    kind = draw.randrange(6)
    if kind == 0:
        to = draw.randrange(states)
        return tuple((to, 0) for _ in range(states))
    if kind == 1:
        return tuple((state, draw.randrange(2)) for state in range(states))
    if kind == 2:
        return tuple((to, 0) for to in exchange)
    if kind == 3:
        least = draw.randrange(states)
        return tuple((max(state, least), 0) for state in range(states))
    if kind == 4:
        return tuple((draw.choice((0, state)), 0) for state in range(states))
    return tuple((draw.randrange(states), draw.randrange(2)) for _ in range(states))


def drawn_served_table(draw, most_deeds=5):
    """A served table of 1 to 5 states, often with a deed that tells the state."""
    while True:
        states = draw.randint(1, 5)
        exchange = draw.sample(range(states), states)
        deeds = (look_of(states),) if draw.random() < 0.5 else ()
        for _ in range(draw.randint(1, 3 * most_deeds)):
            deed = drawn_deed(draw, states, exchange)
            if len(deeds) < most_deeds and is_served(deeds + (deed,)):
                deeds += (deed,)
        if deeds:
            return deeds


def drawn_lot(draw, table, hands, tries):
    """A lot with drawn deeds, rows on one line, and answers that are as often wrong as right."""
    lot = [()] * hands
    rows = [(0,) * hands]
    for _ in range(tries):
        had = tuple(len(items) for items in lot)
        line = [*sorted(set(rows)), had]
        k = len(line) - 2 if draw.random() < 0.6 else draw.randrange(len(line) - 1)
        low, high = line[k], line[k + 1]
        hand = draw.randrange(hands)
        if low[hand] <= had[hand] <= high[hand]:
            row = [draw.randint(a, b) for a, b in zip(low, high)]
            row[hand] = had[hand]
            rows.append(tuple(row))
            lot[hand] += ((draw.randrange(len(table)), draw.randrange(2), tuple(row)),)
    return tuple(lot)


def sees_by_words(lot, one, other):
    return lot[one[0]][one[1] - 1][2][other[0]] >= other[1]


def deeds_in(lot):
    return [(hand, k + 1) for hand, items in enumerate(lot) for k in range(len(items))]


def order_by_words(lot):
    return sorted(deeds_in(lot), key=lambda deed: (sum(lot[deed[0]][deed[1] - 1][2]), deed[0]))


def overwrites_by_words(table, one, other):
    return all(table[one][table[other][state][0]] == table[one][state] for state in range(len(table[0])))


def leads(made, one, other):
    """Whether edges lead from one to other: a plain search."""
    seen, todo = {one}, [one]
    while todo:
        here = todo.pop()
        if here == other:
            return True
        further = [behind for ahead, behind in made if ahead == here and behind not in seen]
        seen.update(further)
        todo.extend(further)
    return False


def wished_by_words(table, lot, old, new):
    """The edge that [71] wishes for between old and new, of which new does not see old; None if there is none."""
    d, e = lot[new[0]][new[1] - 1][0], lot[old[0]][old[1] - 1][0]
    if overwrites_by_words(table, d, e) and (not overwrites_by_words(table, e, d) or new[0] > old[0]):
        return (old, new)
    if overwrites_by_words(table, e, d):
        return (new, old)
    return None


def web_by_words(table, lot):
    """The ascending lists of the edges and of those left out, each wished edge looked at against ways back."""
    order = order_by_words(lot)
    made = {(one, other) for one, other in product(order, repeat=2) if sees_by_words(lot, other, one)}
    omitted = []
    for k, new in enumerate(order):
        for old in order[:k]:
            edge = None if sees_by_words(lot, new, old) else wished_by_words(table, lot, old, new)
            if edge is not None and leads(made, edge[1], edge[0]):
                omitted.append(edge)
            elif edge is not None:
                made.add(edge)
    return sorted(made), sorted(omitted)


def sequences_by_words(lot, made):
    """All sequences of a lot with these edges, walked one by one, in ascending sequence."""
    deeds = deeds_in(lot)

    def walk(taken):
        if len(taken) == len(deeds):
            yield list(taken)
        for deed in deeds:
            if deed not in taken and all(ahead in taken for ahead, behind in made if behind == deed):
                yield from walk(taken + [deed])

    return walk([])


def run(table, begin, lot, sequence):
    """The state and the answers, as a dict, that the table gives along a sequence."""
    state, answers = begin, {}
    for hand, number in sequence:
        state, answers[(hand, number)] = table[lot[hand][number - 1][0]][state]
    return state, answers


def cut(lot, row):
    return tuple(items[:many] for items, many in zip(lot, row))


def closed_rows(lot):
    """All rows below that of the lot that are closed."""
    for row in product(*(range(len(items) + 1) for items in lot)):
        if all(below(item[2], row) for items in cut(lot, row) for item in items):
            yield row


def due_by_words(table, begin, lot):
    """The answers that are due, each by the least sequence of the lot up to the row of its look."""
    due = []
    for items in lot:
        told = []
        for deed, _, row in items:
            seen = cut(lot, row)
            state, _ = run(table, begin, seen, next(sequences_by_words(seen, web_by_words(table, seen)[0])))
            told.append(table[deed][state][1])
        due.append(tuple(told))
    return tuple(due)


def bearing(lot, answers):
    """The lot with these answers."""
    return tuple(tuple((deed, told, row) for (deed, _, row), told in zip(items, tolds)) for items, tolds in zip(lot, answers))
