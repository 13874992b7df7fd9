"""What houses say under their seals, and papers of two sayings that convict one."""

from seenatonce.checks import below, counts_from_one, is_place, is_row_for, is_tuple_of
from seenatonce.errors import BadSaying
from seenatonce.trust import are_ascending_names, check_book


def house_in(trust, name):
    """The house of a saying."""
    return trust.content(name)[1]


def number_in(trust, name):
    """The number of a saying."""
    return trust.content(name)[2]


def row_in(trust, name):
    """The row of a saying."""
    return trust.content(name)[3]


def past_in(trust, name):
    """The names of the earlier sayings that a saying tells."""
    return trust.content(name)[4]


def about_in(trust, name):
    """The names that a saying is about."""
    return trust.content(name)[5]


def _is_past(trust, value, number):
    return is_tuple_of(value, number - 1) and all([trust.is_name(name) for name in value])


def _says(trust, store, content):
    """Whether a content of the book has the form of a saying."""
    if not is_tuple_of(content, 6) or content[0] != "saying":
        return False
    hands, houses, _ = store
    _, house, number, row, past, about = content
    if not is_place(house, houses) or not counts_from_one(number) or not is_row_for(row, hands):
        return False
    return _is_past(trust, past, number) and are_ascending_names(trust, about)


def is_told(trust, store, name):
    """Whether any value is the name of a saying, in a book for a store."""
    if not trust.is_name(name) or not _says(trust, store, trust.content(name)):
        return False
    return trust.sealed(("house", house_in(trust, name)), name)


def is_saying(trust, store, name):
    """Whether any value is the name of a saying."""
    check_book(trust, store)
    return is_told(trust, store, name)


def _kind_of_two(trust, earlier, later):
    """By what two unlike sayings of one house convict it; None if they do not. The later one has no less number."""
    number = number_in(trust, earlier)
    if number == number_in(trust, later):
        return "twice"
    if past_in(trust, later)[number - 1] != earlier:
        return "past"
    if not below(row_in(trust, earlier), row_in(trust, later)):
        return "shrunk"
    return None


def paper_of_told(trust, one, other):
    """The paper (kind, lesser name, greater name) of two names of sayings; None if they convict nobody."""
    if one == other or house_in(trust, one) != house_in(trust, other):
        return None
    if number_in(trust, one) <= number_in(trust, other):
        kind = _kind_of_two(trust, one, other)
    else:
        kind = _kind_of_two(trust, other, one)
    return None if kind is None else (kind, min(one, other), max(one, other))


def paper_of(trust, store, one, other):
    """The paper (kind, lesser name, greater name) of two sayings; None if they convict nobody."""
    check_book(trust, store)
    if not is_told(trust, store, one):
        raise BadSaying("one is no name of a saying")
    if not is_told(trust, store, other):
        raise BadSaying("other is no name of a saying")
    return paper_of_told(trust, one, other)


def is_paper(trust, store, value):
    """Whether any value is a paper that paper_of tells."""
    check_book(trust, store)
    if not is_tuple_of(value, 3) or not all([is_told(trust, store, name) for name in value[1:]]):
        return False
    return value == paper_of_told(trust, value[1], value[2])


def convicted(trust, store, paper):
    """The number of the house that the paper convicts."""
    if not is_paper(trust, store, paper):
        raise BadSaying("no paper")
    return house_in(trust, paper[1])
