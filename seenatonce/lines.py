"""How many of some rows lie on a few lines, and the bars that show that no more do.

The rows are laid on lines as water flows: from a start through rows, each below the next one, to an end, one unit
for each line. A row is passed once. A way that leads back along the flow takes rows from lines and gives them to
others, so that a new line leaves as few rows out as can be. The gains of ways from the start are levels; rows that
stand alone on a step from one level to the next are a bar.
"""

from seenatonce.checks import ascends, below, is_place
from seenatonce.errors import BadCount, TooMany
from seenatonce.rows import are_apart, check_rows, is_line, is_row

MOST_ROWS = 24


def _check_count(many):
    if not is_place(many, MOST_ROWS + 1):
        raise BadCount("no number from 0 to 24")


def _few_rows(rows):
    """The unlike ones of some rows, ascending."""
    unlike = sorted(set(rows))
    if len(unlike) > MOST_ROWS:
        raise TooMany(MOST_ROWS)
    return unlike


def _are_lots(rows, value):
    """Whether any value is a tuple of non-empty tuples of some of the rows, no row standing twice."""
    if not isinstance(value, tuple) or not all([isinstance(lot, tuple) and lot for lot in value]):
        return False
    told = [row for lot in value for row in lot]
    return all([is_row(row) and row in rows for row in told]) and len(set(told)) == len(told)


def are_lines(rows, many, value):
    """Whether any value is a tuple of at most many lines of rows."""
    check_rows(rows)
    _check_count(many)
    return _are_lots(rows, value) and len(value) <= many and all([is_line(line) for line in value])


def _is_bar(lot):
    return ascends(lot) and all([are_apart(one, other) for one in lot for other in lot if one < other])


def are_bars(rows, value):
    """Whether any value is a tuple of bars of rows."""
    check_rows(rows)
    return _are_lots(rows, value) and all([_is_bar(lot) for lot in value])


def _arcs(rows):
    """All steps of the flow, as triples (tail, head, gain).

    Row k is entered at node k and left at node len(rows) + k; the last two nodes are the start and the end.
    """
    many = len(rows)
    start = 2 * many
    arcs = []
    for k in range(many):
        arcs.append((start, k, 0))
        arcs.append((k, many + k, 1))
        arcs.append((many + k, start + 1, 0))
        for j in range(k + 1, many):
            if below(rows[k], rows[j]):
                arcs.append((many + k, j, 0))
    return arcs


def _open_arcs(arcs, flow):
    """The steps that a further way may take: back along the flow, and ahead but through a row that is passed."""
    steps = []
    for tail, head, gain in arcs:
        if (tail, head) in flow:
            steps.append((head, tail, -gain))
        if gain == 0 or (tail, head) not in flow:
            steps.append((tail, head, gain))
    return steps


def _best_ways(rows, flow):
    """For each node the greatest gain of a way to it from the start, and the node ahead of it on this way."""
    many = len(rows)
    steps = _open_arcs(_arcs(rows), flow)
    gains = [None] * (2 * many + 2)
    ahead = [None] * (2 * many + 2)
    gains[2 * many] = 0
    changed = True
    while changed:
        changed = False
        for tail, head, gain in steps:
            if gains[tail] is not None and (gains[head] is None or gains[head] < gains[tail] + gain):
                gains[head] = gains[tail] + gain
                ahead[head] = tail
                changed = True
    return gains, ahead


def _put_line(rows, flow):
    """Changes the flow to one of a line more that passes as many rows as can be."""
    _, ahead = _best_ways(rows, flow)
    head = 2 * len(rows) + 1
    while ahead[head] is not None:
        tail = ahead[head]
        if (head, tail) in flow:
            del flow[(head, tail)]
        else:
            flow[(tail, head)] = True
        head = tail


def _holds_all(rows, flow):
    return all([(k, len(rows) + k) in flow for k in range(len(rows))])


def _line_from(rows, flow, first):
    """The line of the flow whose first row has this place."""
    many = len(rows)
    line = []
    places = [first]
    while places:
        last = places[0]
        line.append(rows[last])
        places = [k for k in range(many) if (many + last, k) in flow]
    return tuple(line)


def _lines(rows, flow):
    many = len(rows)
    return tuple([_line_from(rows, flow, k) for k in range(many) if (2 * many, k) in flow])


def _bars(rows, flow):
    """The bars that show that so many lines hold no more rows than those of the flow."""
    # Without a row that is left out there may be no way to a node; but then no bar is wanted either.
    if _holds_all(rows, flow):
        return ()
    many = len(rows)
    gains, _ = _best_ways(rows, flow)
    levels = {}
    for k, row in enumerate(rows):
        if gains[many + k] > gains[k]:
            levels.setdefault(gains[many + k], []).append(row)
    return tuple([tuple(levels[level]) for level in sorted(levels)])


def most_on_lines(rows, many):
    """A pair (lines, bars): at most many lines with as many rows as can be, and bars that show it."""
    check_rows(rows)
    _check_count(many)
    unlike = _few_rows(rows)
    flow = {}
    for _ in range(many):
        if not _holds_all(unlike, flow):
            _put_line(unlike, flow)
    return (_lines(unlike, flow), _bars(unlike, flow))


def fewest_lines(rows):
    """A pair (lines, lot): as few lines as can be that hold all rows, and as many rows, each two parted."""
    check_rows(rows)
    unlike = _few_rows(rows)
    flow = {}
    lot = ()
    while not _holds_all(unlike, flow):
        # One line less leaves a row out: so its bars are too long for it, and the longest has a row for each line.
        lot = max(_bars(unlike, flow), key=len)
        _put_line(unlike, flow)
    return (_lines(unlike, flow), lot)
