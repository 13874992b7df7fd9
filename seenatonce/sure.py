"""What is sure behind sayings that somebody was told, and what later looks may miss."""

from seenatonce.checks import ascends, check_row, is_list, is_place, is_tuple_of, need_of
from seenatonce.court import named_by
from seenatonce.errors import BadLook, BadSaying, MoreLie
from seenatonce.sayings import house_in, is_told, number_in, row_in
from seenatonce.spans import is_look
from seenatonce.trust import check_book


def _check_known(trust, store, known):
    check_book(trust, store)
    if not is_list(known) or not all([is_told(trust, store, name) for name in known]):
        raise BadSaying("no list of names of sayings")


def _liars(trust, known):
    """The houses that two of these sayings convict, ascending."""
    return tuple([house for house, _ in named_by(trust, known)])


def liars_in(trust, store, known):
    """The ascending tuple of the houses that two of the known sayings convict."""
    _check_known(trust, store, known)
    return _liars(trust, known)


def _most_told(trust, store, known, liars):
    """For each hand the pairs (item, house) of all houses but the liars: the greatest item that the house told."""
    told = {house: [0] * store[0] for house in range(store[1]) if house not in liars}
    for name in known:
        house = house_in(trust, name)
        if house in told:
            told[house] = [max(pair) for pair in zip(told[house], row_in(trust, name))]
    return [[(items[hand], house) for house, items in told.items()] for hand in range(store[0])]


def _keepers(trust, store, known, row):
    told = _most_told(trust, store, known, _liars(trust, known))
    return tuple([tuple([house for item, house in pairs if item >= least]) for pairs, least in zip(told, row)])


def keepers_of(trust, store, known, row):
    """For each hand the ascending tuple of the houses that have told so many sheets of it, and are not convicted."""
    _check_known(trust, store, known)
    check_row(store, row)
    return _keepers(trust, store, known, row)


def _is_later(trust, known, name):
    """Whether a saying has a greater number than all known sayings of its house."""
    house, number = house_in(trust, name), number_in(trust, name)
    return all([house_in(trust, told) != house or number_in(trust, told) < number for told in known])


def is_behind(trust, store, known, look):
    """Whether each house that is known told the look's had with a later saying."""
    _check_known(trust, store, known)
    if not is_look(trust, store, look):
        raise BadLook("no look")
    return all([_is_later(trust, known, name) for name in look[2]])


def _check_liars(trust, store, known):
    """Also MoreLie, if the known sayings convict more houses than may lie."""
    _check_known(trust, store, known)
    liars = _liars(trust, known)
    if len(liars) > store[2]:
        raise MoreLie(liars)


def _miss(store, liars, hand, keepers):
    """A miss of an item with these keepers; None if they are too many."""
    _, houses, lies = store
    if len(keepers) >= 2 * lies + 1 - len(liars):
        return None
    # As many keepers as may lie do; the others are not heard.
    lying = liars + keepers[:lies - len(liars)]
    heard = [house for house in range(houses) if house in lying or house not in keepers]
    return (hand, tuple(sorted(lying)), tuple(heard[:need_of(store)]))


def miss_of(trust, store, known, row):
    """A miss of the row: a hand, houses that may lie, and houses that a look can hear alone; None if it is sure."""
    _check_liars(trust, store, known)
    check_row(store, row)
    liars = _liars(trust, known)
    keepers = _keepers(trust, store, known, row)
    misses = [_miss(store, liars, hand, keepers[hand]) for hand in range(store[0])]
    found = [miss for miss in misses if miss is not None]
    return found[0] if found else None


def _are_houses(store, value):
    """Whether any value is an ascending tuple of houses."""
    return isinstance(value, tuple) and all([is_place(house, store[1]) for house in value]) and ascends(value)


def is_miss(trust, store, known, row, value):
    """Whether any value is a miss of the row."""
    _check_liars(trust, store, known)
    check_row(store, row)
    if not is_tuple_of(value, 3) or not is_place(value[0], store[0]):
        return False
    hand, liars, heard = value
    if not _are_houses(store, liars) or not _are_houses(store, heard):
        return False
    if len(liars) > store[2] or not all([house in liars for house in _liars(trust, known)]):
        return False
    keepers = _keepers(trust, store, known, row)[hand]
    return len(heard) == need_of(store) and all([house in liars or house not in keepers for house in heard])


def sure_row(trust, store, known):
    """The greatest row that is sure."""
    _check_liars(trust, store, known)
    liars = _liars(trust, known)
    told = _most_told(trust, store, known, liars)
    # The item that so many houses at least have told: of all, the greatest first, the last one of so many.
    enough = 2 * store[2] + 1 - len(liars)
    return tuple([sorted(pairs, reverse=True)[enough - 1][0] for pairs in told])
