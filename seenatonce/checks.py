"""What numbers, rows and stores are, and for how many houses a round waits."""

from seenatonce.errors import BadRow, BadStore

# A number has at most 18 digits.
GREATEST = 999999999999999999
MOST_HANDS = 6
MOST_HOUSES = 13


def is_number(value):
    """Whether any value is a number: an int of at most 18 digits that is not a bool."""
    return isinstance(value, int) and not isinstance(value, bool) and -GREATEST <= value <= GREATEST


def is_count(value):
    """Whether any value is a number from 0 on."""
    return is_number(value) and value >= 0


def counts_from_one(value):
    """Whether any value is a number from 1 on."""
    return is_count(value) and value > 0


def is_list(value):
    """Whether any value may stand where a list is expected."""
    return isinstance(value, (list, tuple))


def is_place(value, many):
    """Whether any value is a number from 0 on, below many."""
    return is_count(value) and value < many


def is_tuple_of(value, many):
    """Whether any value is a tuple of so many items."""
    return isinstance(value, tuple) and len(value) == many


def is_row_for(value, hands):
    """Whether any value is a row for so many hands."""
    return is_tuple_of(value, hands) and all([is_count(item) for item in value])


def below(one, other):
    """Whether one row is below another one of as many items."""
    return all([item <= others for item, others in zip(one, other)])


def ascends(values):
    """Whether each of some values, which have an order, is less than the next one."""
    return all([item < after for item, after in zip(values, values[1:])])


def is_store(value):
    """Whether any value is a store: a triple (hands, houses, lies) within its bounds."""
    if not is_row_for(value, 3):
        return False
    hands, houses, lies = value
    return 1 <= hands <= MOST_HANDS and 3 * lies < houses <= MOST_HOUSES


def check_store(store):
    """BadStore for what is no store."""
    if not is_store(store):
        raise BadStore("no store: hands from 1 to 6, houses above 3 * lies and up to 13")


def check_row(store, row):
    """BadRow for what is no row for the hands of the store."""
    if not is_row_for(row, store[0]):
        raise BadRow("no row for the hands of the store")


def need_of(store):
    """For how many houses of the store a round waits."""
    check_store(store)
    return store[1] - store[2]
