"""The court: which houses what they sealed convicts, and spans on one line."""

from seenatonce.checks import below, check_row, is_list
from seenatonce.errors import BadHeard, BadSpan
from seenatonce.rows import joined
from seenatonce.sayings import house_in, paper_of_told
from seenatonce.spans import check_two_spans, is_had, is_kept, is_span
from seenatonce.trust import check_book


def named_by(trust, names):
    """For each house of which two of these sayings make a paper, ascending, the house and that of the least pair."""
    ascending = sorted(set(names))
    found = {}
    for k, one in enumerate(ascending):
        for other in ascending[k + 1:]:
            paper = paper_of_told(trust, one, other)
            if paper is not None:
                found.setdefault(house_in(trust, one), paper)
    return tuple(sorted(found.items()))


def named(trust, store, one, other):
    """The ascending tuple of pairs (house, paper), for all houses that the sayings in the two spans convict."""
    check_two_spans(trust, store, one, other)
    return named_by(trust, one[2] + one[3] + other[2] + other[3])


def went_back(trust, store, row, kept, had):
    """The same for the sayings of kept, which told the row, and of had, which were told of them."""
    check_book(trust, store)
    check_row(store, row)
    if not is_kept(trust, store, row, kept):
        raise BadHeard("kept is no lot of heard sayings that keep the row")
    if not is_had(trust, store, kept, had):
        raise BadHeard("had is no lot of heard sayings about those of kept")
    return named_by(trust, kept + had)


def _sequence_told(spans):
    """The places of the spans in the sequence told."""
    keys = sorted([(max(kept), place) for place, (_, _, kept, _) in enumerate(spans)])
    return [place for _, place in keys]


def _first_wrong(spans, places):
    """The first pair of places of spans, in the sequence told, of which the one comes ahead wrongly; None if none."""
    for k, other in enumerate(places):
        for one in places[:k]:
            if not below(spans[one][0], spans[other][1]):
                return (one, other)
    return None


def _crossing_papers(trust, kept, had):
    """For all houses with a saying in kept and one in had, ascending, the house and the paper of these two."""
    told = {house_in(trust, name): name for name in kept}
    pairs = [(house_in(trust, name), name) for name in had]
    return tuple(sorted([(house, paper_of_told(trust, told[house], name)) for house, name in pairs if house in told]))


def spans_in_line(trust, store, spans):
    """A line with a row in each span, in the sequence told; or two spans, and papers of the houses that lied."""
    check_book(trust, store)
    if not is_list(spans) or not all([is_span(trust, store, span) for span in spans]):
        raise BadSpan("no list of spans")
    places = _sequence_told(spans)
    wrong = _first_wrong(spans, places)
    if wrong is not None:
        one, other = wrong
        return ("lied", one, other, _crossing_papers(trust, spans[one][2], spans[other][3]))
    lows = [spans[place][0] for place in places]
    return ("line", tuple(places), tuple([joined(lows[:k + 1]) for k in range(len(lows))]))
