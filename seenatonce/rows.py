"""Rows beside one another: which are below others, which are parted, which make a line."""

from seenatonce.checks import MOST_HANDS, ascends, below, is_list, is_row_for
from seenatonce.errors import BadLine, BadRow, BadRows, Parted


def is_row(value):
    """Whether any value is a row of 1 to 6 items."""
    return isinstance(value, tuple) and 1 <= len(value) <= MOST_HANDS and is_row_for(value, len(value))


def are_alike_rows(values):
    """Whether all items of a list or tuple are rows with as many items."""
    return all([is_row(value) for value in values]) and all([len(value) == len(values[0]) for value in values])


def check_rows(rows):
    """BadRows for what is no list of rows with as many items."""
    if not is_list(rows) or not are_alike_rows(rows):
        raise BadRows("no list of rows with as many items")


def are_apart(one, other):
    """Whether neither of two rows is below the other one."""
    return not below(one, other) and not below(other, one)


def on_one_line(rows):
    """Whether of each two of some rows with as many items the one is below the other."""
    # Of two unlike rows the one that is below the other one is less in Python's order, too.
    unlike = sorted(set(rows))
    return all([below(row, after) for row, after in zip(unlike, unlike[1:])])


def is_below(one, other):
    """Whether the one row is below the other one."""
    if not is_row(one):
        raise BadRow("one is no row")
    if not is_row_for(other, len(one)):
        raise BadRow("other is no row with as many items as one")
    return below(one, other)


def one_more(row, hand):
    """The row with one sheet more of the hand."""
    return row[:hand] + (row[hand] + 1,) + row[hand + 1:]


def rows_below(row):
    """The ascending list of all rows that are below a row."""
    rows = [()]
    for most in row:
        rows = [told + (item,) for told in rows for item in range(most + 1)]
    return rows


def _check_some_rows(rows):
    check_rows(rows)
    if not rows:
        raise BadRows("no rows at all")


def joined(rows):
    """The row of the greatest items."""
    _check_some_rows(rows)
    return tuple([max(items) for items in zip(*rows)])


def common(rows):
    """The row of the least items."""
    _check_some_rows(rows)
    return tuple([min(items) for items in zip(*rows)])


def first_parted(rows):
    """The places of the first row that is parted from one ahead of it, that one's first; None if none is."""
    check_rows(rows)
    for j in range(len(rows)):
        for i in range(j):
            if are_apart(rows[i], rows[j]):
                return (i, j)
    return None


def is_line(value):
    """Whether any value is a line: unlike rows with as many items, each below the next one."""
    if not isinstance(value, tuple) or not are_alike_rows(value):
        return False
    # A row that is below another one and unlike it is less in Python's order, too.
    return ascends(value) and all([below(row, after) for row, after in zip(value, value[1:])])


def line_of(rows):
    """The line of all rows, each once."""
    pair = first_parted(rows)
    if pair is not None:
        one, other = pair
        raise Parted(one, other)
    return tuple(sorted(set(rows)))


def fits(line, row):
    """At which place of the line the row can stand; None if it is parted from a row of the line."""
    if not is_line(line):
        raise BadLine("no line")
    if not is_row(row) or (line and len(row) != len(line[0])):
        raise BadRow("no row with as many items as the rows of the line")
    if any([are_apart(row, held) for held in line]):
        return None
    return len([held for held in line if held != row and below(held, row)])
