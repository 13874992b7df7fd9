"""What houses that lie can bring a hand to take for a look: scenes, plans of answers, rows that can be shown."""

from seenatonce.checks import ascends, below, check_row, is_place, is_row_for, is_tuple_of, need_of
from seenatonce.errors import BadPlan, BadScene, TooMany
from seenatonce.rows import is_line, joined, on_one_line, one_more, rows_below
from seenatonce.sheets import check_stock, closed_above, closes, looks_up_to, noughts, own_look, row_of

MOST_SHOWN = 1000


def _is_closed_row(trust, stock, value):
    """Whether any value is a row that is closed in a stock."""
    return is_row_for(value, len(stock)) and closes(trust, stock, value)


def _are_took(hand, last, mine, value):
    """Whether any value is the tuple of the rows of the looks that the hand took since its last sheet."""
    if not is_line(value) or not all([len(row) == len(mine) for row in value]):
        return False
    return all([row[hand] == mine[hand] and below(row, last) for row in value])


def _is_scene(trust, store, stock, value):
    if not is_tuple_of(value, 5) or not is_place(value[0], store[0]):
        return False
    hand, last, mine, took, rows = value
    if not is_row_for(mine, store[0]) or not below(mine, row_of(stock)) or mine[hand] != len(stock[hand]):
        return False
    if not is_tuple_of(rows, store[1]) or not all([row is None or _is_closed_row(trust, stock, row) for row in rows]):
        return False
    if last is None:
        return is_tuple_of(took, 0) and mine[hand] == 0
    if not _is_closed_row(trust, stock, last) or not below(last, mine) or last[hand] != mine[hand]:
        return False
    return _are_took(hand, last, mine, took)


def is_scene(trust, store, stock, value):
    """Whether any value is a scene (hand, last, mine, took, rows) over the stock."""
    check_stock(trust, store, stock)
    return _is_scene(trust, store, stock, value)


def _check_scene(trust, store, stock, scene):
    check_stock(trust, store, stock)
    if not _is_scene(trust, store, stock, scene):
        raise BadScene("no scene")


def _is_answer(trust, stock, rows, value):
    """Whether any value is an answer (house, row) in a scene whose houses have these rows."""
    if not is_tuple_of(value, 2) or not is_place(value[0], len(rows)):
        return False
    house, row = value
    return _is_closed_row(trust, stock, row) if rows[house] is None else row is None


def _is_collect(trust, store, stock, rows, value):
    if not is_tuple_of(value, need_of(store)) or not all([_is_answer(trust, stock, rows, pair) for pair in value]):
        return False
    return ascends([house for house, _ in value])


def _is_plan(trust, store, stock, scene, value):
    """Whether any value is a plan: a tuple of collects."""
    _, _, _, _, rows = scene
    return isinstance(value, tuple) and all([_is_collect(trust, store, stock, rows, collect) for collect in value])


def _told(trust, stock, scene, row):
    """The rows of took, and those of all looks in the sheets that the hand has or that are up to the row."""
    _, _, mine, took, _ = scene
    return [look[0] for look in looks_up_to(trust, stock, joined([mine, row]))] + list(took)


def _lenders(first, row):
    """The hands of which the row has 2 more than the first one, or still more, ascending."""
    return [hand for hand, many in enumerate(row) if many >= first[hand] + 2]


def _lent(trust, stock, last, sheet):
    """What comes of a look that the sheet (hand, number) lends, in a call that began with this last row."""
    hand, number = sheet
    row = own_look(trust, stock[hand][number - 1])[0]
    return ("look", row) if last is None or below(last, row) else ("lied", "lent")


def _outcome(trust, stock, scene, known, back, first, row):
    """What comes of a collect with this row, behind a row that was told back; None if the row is told back.

    The row known is that of all collects up to this one.
    """
    _, last, _, _, _ = scene
    rows = _told(trust, stock, scene, known)
    if not on_one_line(rows):
        return ("lied", "parted")
    if back is not None and not below(back, row):
        return ("lied", "back")
    if back == row:
        return ("look", row) if on_one_line(rows + [row]) else ("lied", "parted")
    lenders = _lenders(first, row)
    return _lent(trust, stock, last, (lenders[0], row[lenders[0]])) if lenders else None


def led(trust, store, stock, scene, plan):
    """What comes of a call by the rules of hands, if the houses answer by the plan."""
    _check_scene(trust, store, stock, scene)
    if not _is_plan(trust, store, stock, scene, plan):
        raise BadPlan("no plan")
    _, back, _, _, rows = scene
    collected = []
    for collect in plan:
        row = joined([rows[house] if told is None else told for house, told in collect])
        collected.append(row)
        came_of_it = _outcome(trust, stock, scene, joined(collected), back, collected[0], row)
        if came_of_it is not None:
            return came_of_it
        back = row
        rows = [None if had is None else joined([had, row]) for had in rows]
    return ("open", back)


def _lots(houses, many):
    """All lots of so many of some houses, each ascending as these are."""
    if many == 0:
        return [()]
    return [(house,) + rest for k, house in enumerate(houses) for rest in _lots(houses[k + 1:], many - 1)]


def _bases(store, rows):
    """For so many houses as are to be heard, as many liars among them as can be: the joined row of the others.

    A dict from such rows to the houses. With a liar among them they can tell all closed rows above this row, and
    without one this row alone.
    """
    liars = tuple([house for house, row in enumerate(rows) if row is None][:need_of(store)])
    honest = [house for house, row in enumerate(rows) if row is not None]
    bases = {}
    for lot in _lots(honest, need_of(store) - len(liars)):
        row = joined([noughts(store)] + [rows[house] for house in lot])
        bases.setdefault(row, tuple(sorted(liars + lot)))
    return bases


def _collect(rows, houses, row):
    """The collect in which these houses answer, and those of them that lie tell the row."""
    return tuple([(house, row if rows[house] is None else None) for house in houses])


def _may_follow(last, row):
    """Whether a collect with the row can be the first one of a call behind the last row, and is told back."""
    return last is None or below(last, row) and last != row


def _other_houses(rows, houses, row):
    """As many houses as these with rows below the row, all those among them that these are not."""
    late = [house for house, had in enumerate(rows) if below(had, row) and house not in houses]
    return tuple(sorted(late + list(houses[:len(houses) - len(late)])))


def _honest_plan(last, rows, bases, row):
    """A plan by which houses that all keep to their rules show their joined row; None if there is none.

    It may have more collects than are looked at.
    """
    if joined([had for had in rows if below(had, row)]) != row:
        return None
    if last == row:
        return (_collect(rows, bases[row], row),) if row in bases else None
    for base, houses in bases.items():
        if below(base, row) and _may_follow(last, base) and not _lenders(base, row):
            other = _collect(rows, _other_houses(rows, houses, row), row)
            return (_collect(rows, houses, row), other, other)
    return None


def _collected(trust, stock, scene, bases, row):
    """A plan by which the row is collected and then again; None if there is none."""
    _, last, _, _, rows = scene
    lots = [houses for base, houses in bases.items() if below(base, row)]
    if not lots or not closes(trust, stock, row) or last is not None and not below(last, row):
        return None
    if not on_one_line(_told(trust, stock, scene, row) + [row]):
        return None
    if None not in rows:
        return _honest_plan(last, rows, bases, row)
    # If it is the last row, the second collect is not looked at.
    return (_collect(rows, lots[0], row),) * 2


def _least_first(trust, stock, last, base, row, lender):
    """The least row that can be collected first, above the base, ahead of a collect with which the lender lends."""
    # Of each hand ahead of the lender the later collect, which is above the row, may have one sheet more at most.
    floor = tuple([max(many - 1, 0) if hand < lender else 0 for hand, many in enumerate(row)])
    return closed_above(trust, stock, joined([base, floor] + ([] if last is None else [last])))


def _lent_by_liars(trust, stock, scene, bases, row, lender):
    """A plan of two collects, with a liar in both, behind which the lender lends the row; None if there is none."""
    _, last, _, _, rows = scene
    sheet = one_more(row, lender)
    for base, houses in bases.items():
        first = _least_first(trust, stock, last, base, row, lender)
        # That first is not the last row: all in the base would be below the row, which could be collected.
        if first is None or first[lender] >= row[lender]:
            continue
        second = joined([first, sheet])
        if on_one_line(_told(trust, stock, scene, second)):
            return (_collect(rows, houses, first), _collect(rows, houses, second))
    return None


def _lent_by_honest(trust, stock, scene, bases, row, lender):
    """The same if no house lies: a further house brings the sheet of the lender with its own row."""
    _, last, _, _, rows = scene
    for base, houses in bases.items():
        if not _may_follow(last, base) or base[lender] >= row[lender]:
            continue
        for house, had in enumerate(rows):
            if had[lender] != row[lender] + 1 or _lenders(base, had)[0] != lender:
                continue
            if on_one_line(_told(trust, stock, scene, joined([base, had]))):
                others = tuple(sorted((house,) + houses[1:]))
                return (_collect(rows, houses, base), _collect(rows, others, base))
    return None


def _borrowed(trust, stock, scene, bases, row):
    """A plan by which another hand lends the row of a sheet's own look; None if there is none."""
    _, last, _, _, rows = scene
    if not below(row, row_of(stock)) or last is not None and not below(last, row):
        return None
    for lender, sheets in enumerate(stock):
        # An own look has all sheets of its hand ahead of it. The hand of the scene lends nothing: its sheets are up to
        # the last row.
        if row[lender] < len(sheets) and own_look(trust, sheets[row[lender]])[0] == row:
            if None in rows:
                plan = _lent_by_liars(trust, stock, scene, bases, row, lender)
            else:
                plan = _lent_by_honest(trust, stock, scene, bases, row, lender)
            if plan is not None:
                return plan
    return None


def _plan(trust, stock, scene, bases, row):
    """A plan that shows the row; None if there is none."""
    plan = _collected(trust, stock, scene, bases, row)
    return _borrowed(trust, stock, scene, bases, row) if plan is None else plan


def plan_to_show(trust, store, stock, scene, row):
    """A plan by which the hand takes a look with the row; None if there is none."""
    _check_scene(trust, store, stock, scene)
    check_row(store, row)
    return _plan(trust, stock, scene, _bases(store, scene[4]), row)


def _check_few(stock):
    many = 1
    for sheets in stock:
        many = many * (len(sheets) + 1)
    if many > MOST_SHOWN:
        raise TooMany(MOST_SHOWN)


def rows_shown(trust, store, stock, scene):
    """The ascending list of all rows that the hand's look of this call can have."""
    _check_scene(trust, store, stock, scene)
    _check_few(stock)
    bases = _bases(store, scene[4])
    return [row for row in rows_below(row_of(stock)) if _plan(trust, stock, scene, bases, row) is not None]
