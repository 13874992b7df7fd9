"""What the tests share: values of other kinds, bent values, error checks, books with sayings and sheets."""

import random
from itertools import combinations

from seenatonce.errors import SeenError
from seenatonce.trust import Trust

GREATEST = 10 ** 18 - 1


def deep(levels, kind=tuple):
    value = kind()
    for _ in range(levels):
        value = kind([value]) if kind in (tuple, list) else {"k": value}
    return value


def odd_values():
    """Values of many kinds, none of which is a number from 0 on or a tuple of numbers or tuples."""
    return [None, True, False, -1, 10 ** 18, -10 ** 18, "", "name", "0", [], {}, {"a": 1}, {0: 0}, [()], [0], ({},),
            ([],), (None,), (True,), (False,), ("",), Trust(), SeenError("odd"), deep(60, list), deep(60, dict)]


def bends(value):
    """Values that are unlike value in one place, at any depth, and that fit nowhere where value fits."""
    if isinstance(value, tuple):
        yield list(value)
        yield dict(enumerate(value))
        for k, item in enumerate(value):
            for bent in bends(item):
                yield value[:k] + (bent,) + value[k + 1:]
    elif isinstance(value, int):
        if value in (0, 1):
            yield bool(value)
        yield from (10 ** 18, -1, None, str(value), (value,), [value])
    elif isinstance(value, str):
        yield from (value + "x", value.upper(), None, 0, True, (value,), [value])
    else:
        yield from (0, False, "", "None", (), [])


def with_one(args, place, value):
    return [*args[:place], value, *args[place + 1:]]


def check_refused(case, error, call, args, place, values):
    """Each of the values, in this place among right arguments, is refused with just this error."""
    for value in values:
        with case.subTest(call=call.__name__, place=place, value=repr(value)[:80]):
            with case.assertRaises(error) as caught:
                call(*with_one(args, place, value))
            case.assertIs(caught.exception.__class__, error)


def check_sequence(case, call, args, bad):
    """Of several wrong arguments, told as (place, value, error) in their sequence, the first one is refused."""
    for k in range(len(bad)):
        wrong = list(args)
        for place, value, _ in reversed(bad[k:]):
            wrong[place] = value
        with case.subTest(call=call.__name__, first=k):
            with case.assertRaises(bad[k][2]) as caught:
                call(*wrong)
            case.assertIs(caught.exception.__class__, bad[k][2])


def below(one, other):
    return all(a <= b for a, b in zip(one, other))


def parted(one, other):
    return not below(one, other) and not below(other, one)


def join(*rows):
    return tuple(max(items) for items in zip(*rows))


def any_parted(rows):
    """Whether any two of some rows are parted."""
    return any(parted(one, other) for one, other in combinations(rows, 2))


def row_of_tuples(value):
    """How many items each of some tuples has: the row of a stock or of a lot."""
    return tuple(len(items) for items in value)


def drawn_rows(draw, many, items, top):
    return [tuple(draw.randint(0, top) for _ in range(items)) for _ in range(many)]


def drawn_table(draw, states, deeds, answers):
    return tuple(tuple((draw.randrange(states), draw.randrange(answers)) for _ in range(states))
                 for _ in range(deeds))


def drawn_tables(seed, many, most_states=4, most_deeds=3, most_answers=2):
    """Small tables, some with a deed that looks."""
    draw = random.Random(seed)
    tables = []
    for _ in range(many):
        states = draw.randint(1, most_states)
        table = drawn_table(draw, states, draw.randint(1, most_deeds), draw.randint(1, most_answers))
        if draw.random() < 0.4:
            table += (tuple((state, state) for state in range(states)),)
        tables.append(table)
    return tables


class Book:
    """A Trust in which the houses and hands of a store say what a test lets them say."""

    def __init__(self, store):
        self.store = store
        self.trust = Trust()
        self.need = store[1] - store[2]
        self.pasts = [() for _ in range(store[1])]

    def seal(self, who, content):
        name = self.trust.name(content)
        self.trust.seal(who, name)
        return name

    def say(self, house, row, about=()):
        """The next saying of a house that keeps its past."""
        past = self.pasts[house]
        name = self.seal(("house", house), ("saying", house, len(past) + 1, row, past, about))
        self.pasts[house] = past + (name,)
        return name

    def lot(self, rows, about=(), houses=None):
        """Sayings of need houses, with a row for each of them, or one for all."""
        houses = range(self.need) if houses is None else houses
        rows = [rows] * self.need if isinstance(rows, tuple) else rows
        return tuple(sorted(self.say(house, row, about) for house, row in zip(houses, rows)))

    def span(self, low, high, first=None, second=None):
        kept = self.lot(low, (), first)
        return (low, high, kept, self.lot(high, kept, second))

    def look(self, row, first=None, second=None):
        _, _, kept, had = self.span(row, row, first, second)
        return (row, kept, had)

    def sheet(self, hand, number, looks, deed=0, answer=0):
        return self.seal(("hand", hand), ("sheet", hand, number, deed, answer, looks))


def drawn_stock(draw, store, most_sheets, in_line):
    """A book and a stock in it whose sheets have looks with drawn rows, on one line if this is asked for."""
    book = Book(store)
    hands = store[0]
    stock = [()] * hands
    last = (0,) * hands
    for _ in range(draw.randint(0, most_sheets)):
        hand = draw.randrange(hands)
        had = tuple(len(sheets) for sheets in stock)
        row = tuple(draw.randint(low, high) if in_line else draw.randint(0, high + 1)
                    for low, high in zip(last, had))
        row = row[:hand] + (had[hand],) + row[hand + 1:]
        if in_line:
            last = row
        looks = (book.look(row),)
        if draw.random() < 0.3 and row[:hand] + row[hand + 1:] != (0,) * (hands - 1):
            earlier = tuple(0 if k != hand else row[hand] for k in range(hands))
            if not in_line:
                looks = (book.look(earlier),) + looks
        stock[hand] += (book.sheet(hand, had[hand] + 1, looks),)
    return book, tuple(stock)
