"""The clauses of a span and the kinds of papers: without any of them, parted spans convict too few houses."""

from seenatonce.checks import need_of
from seenatonce.errors import BadClause, BadStore
from seenatonce.trust import check_book


def clauses():
    """The names of the clauses, and of the kinds of papers."""
    return ("enough", "kept", "told", "joined", "twice", "past", "shrunk")


class Talk:
    """What houses say, one saying behind another; each begins with the same past."""

    def __init__(self, trust, past):
        self._trust = trust
        self._past = past
        self._pasts = {}

    def say(self, rows, about):
        """The next sayings of some houses, told with their rows: the dict of the names, by the houses."""
        said = {house: self._next(house, row, about) for house, row in rows.items()}
        for house, name in said.items():
            self._pasts[house] = self._pasts.get(house, self._past) + (name,)
        return said

    def _next(self, house, row, about):
        past = self._pasts.get(house, self._past)
        name = self._trust.name(("saying", house, len(past) + 1, row, past, about))
        self._trust.seal(("house", house), name)
        return name


def _two_rows(store):
    """Two rows that are parted."""
    rest = (0,) * (store[0] - 2)
    return ((1, 0) + rest, (0, 1) + rest)


def _both(store):
    """The joined row of the two."""
    return (1, 1) + (0,) * (store[0] - 2)


def _all_with(store, row):
    """The row for each of so many houses as a round waits for."""
    return {house: row for house in range(need_of(store))}


def _lot(said):
    return tuple(sorted(said.values()))


def _near(row, kept, had):
    """The near span from the row to itself."""
    return (row, row, _lot(kept), _lot(had))


def _look(talk, row, houses):
    """The near span of a look with the row, of the next sayings of these houses."""
    rows = {house: row for house in houses}
    kept = talk.say(rows, ())
    return _near(row, kept, talk.say(rows, _lot(kept)))


def _across(talk, store, about):
    """Two lots of sayings of houses whose rows never fall, and yet the joined rows are the two that are parted.

    In the first lot house 0 tells its row last, and the others still have nothing; in the second one house 0 still has
    nothing, and house 1 tells its row last.
    """
    one, other = _two_rows(store)
    rows = _all_with(store, (0,) * store[0])
    early = talk.say(rows, about)
    rows[0] = one
    rows[1] = other
    late = talk.say(rows, about)
    first, second = dict(early), dict(late)
    first[0] = late[0]
    second[0] = early[0]
    return (first, second)


def _across_spans(store, kept, lots):
    """The near spans of the two parted rows, with one lot of kept sayings, and these lots of had ones."""
    return tuple([_near(row, kept, had) for row, had in zip(_two_rows(store), lots)])


def _without_enough(trust, store):
    """House 0 alone shows the one row, and house 1 alone the other one."""
    one, other = _two_rows(store)
    talk = Talk(trust, ())
    return (_look(talk, one, [0]), _look(talk, other, [1]))


def _without_kept(trust, store):
    """The houses are told of sayings that keep nothing."""
    talk = Talk(trust, ())
    kept = talk.say(_all_with(store, (0,) * store[0]), ())
    return _across_spans(store, kept, _across(talk, store, _lot(kept)))


def _without_told(trust, store):
    """The houses tell what they have ahead of what they keep."""
    talk = Talk(trust, ())
    lots = _across(talk, store, ())
    return _across_spans(store, talk.say(_all_with(store, _both(store)), ()), lots)


def _without_joined(trust, store):
    """The houses have both rows, and what they say stands for either."""
    talk = Talk(trust, ())
    rows = _all_with(store, _both(store))
    kept = talk.say(rows, ())
    had = talk.say(rows, _lot(kept))
    return _across_spans(store, kept, (had, had))


def _without_twice(trust, store):
    """All sayings have one number."""
    spans = []
    for row in _two_rows(store):
        rows = _all_with(store, row)
        kept = Talk(trust, ()).say(rows, ())
        spans.append(_near(row, kept, Talk(trust, ()).say(rows, _lot(kept))))
    return tuple(spans)


def _without_past(trust, store):
    """What the houses keep has the greatest number, but stands in no past, and has another one."""
    filler = trust.name(None)
    kept = Talk(trust, (filler, filler)).say(_all_with(store, _both(store)), ())
    return _across_spans(store, kept, _across(Talk(trust, ()), store, _lot(kept)))


def _without_shrunk(trust, store):
    """The houses have the one row, and then the other one."""
    talk = Talk(trust, ())
    houses = list(range(need_of(store)))
    return tuple([_look(talk, row, houses) for row in _two_rows(store)])


def parted_without(trust, store, clause):
    """A pair of near spans that are right but for the clause, and parted, though too few houses are convicted."""
    check_book(trust, store)
    if store[0] == 1 or store[1] == 1:
        raise BadStore("a store of one hand or one house")
    if clause not in clauses():
        raise BadClause("no clause")
    makers = (_without_enough, _without_kept, _without_told, _without_joined, _without_twice, _without_past,
              _without_shrunk)
    make = makers[clauses().index(clause)]
    return make(trust, store)
