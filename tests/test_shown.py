"""Points 92 and 93, with 42, 60 and 62: scenes, plans of answers, and the rows that a hand can be shown."""

import random
import unittest
from itertools import combinations, product

from seenatonce.errors import BadPlan, BadRow, BadScene, BadStock, BadStore, BadTrust, TooMany
from seenatonce.shown import is_scene, led, plan_to_show, rows_shown
from tests.helpers import Book, any_parted, below, bends, check_refused, check_sequence, drawn_stock, join, odd_values, row_of_tuples
from tests.test_sayings import NO_STORE, NO_TRUST


def rows_up_to(trust, stock, row):
    """The rows of all looks in the sheets up to a row."""
    names = [name for sheets, many in zip(stock, row) for name in sheets[:many]]
    return [look[0] for name in names for look in trust.content(name)[5]]


def closed_rows(trust, stock):
    rows = product(*(range(len(sheets) + 1) for sheets in stock))
    return [row for row in rows if all(below(told, row) for told in rows_up_to(trust, stock, row))]


def is_scene_by_words(trust, store, stock, scene):
    """By the words of [92], for a tuple of five items of the kinds told there."""
    hand, last, mine, took, rows = scene
    top, closed = row_of_tuples(stock), closed_rows(trust, stock)
    if not below(mine, top) or mine[hand] != top[hand] or len(rows) != store[1]:
        return False
    if any(row is not None and row not in closed for row in rows):
        return False
    if last is None:
        return took == () and mine[hand] == 0
    if last not in closed or not below(last, mine) or last[hand] != mine[hand]:
        return False
    line = all(below(one, other) and one != other for one, other in zip(took, took[1:]))
    return line and all(row[hand] == mine[hand] for row in took) and (not took or below(took[-1], last))


def outcome_by_words(trust, stock, scene, first, last, known, row):
    """By the words of [92]: what a collect with this row comes to; None if the row is told back."""
    told = rows_up_to(trust, stock, known) + list(scene[3])
    if any_parted(told):
        return ("lied", "parted")
    if last is not None and not below(last, row):
        return ("lied", "back")
    if last == row:
        return ("lied", "parted") if any_parted(told + [row]) else ("look", row)
    for hand in range(len(row)):
        if row[hand] >= first[hand] + 2:
            lent = trust.content(stock[hand][row[hand] - 1])[5][-1][0]
            return ("look", lent) if scene[1] is None or below(scene[1], lent) else ("lied", "lent")
    return None


def led_by_words(trust, stock, scene, plan):
    hand, last, known, _, rows = scene
    first = None
    for collect in plan:
        row = join(*(rows[house] if told is None else told for house, told in collect))
        first = first or row
        known = join(known, row)
        came = outcome_by_words(trust, stock, scene, first, last, known, row)
        if came is not None:
            return came
        last, rows = row, [had if had is None else join(had, row) for had in rows]
    return ("open", last)


def rows_of_collects(need, rows, closed):
    """All rows that a collect can have: each lot of houses, each closed row for each liar among them."""
    found = set()
    for houses in combinations(range(len(rows)), need):
        here = {join(*(rows[house] for house in houses if rows[house] is not None), (0,) * len(closed[0]))}
        for _ in [house for house in houses if rows[house] is None]:
            here = {join(one, other) for one in here for other in closed}
        found |= here
    return found


def shown_by_search(trust, store, stock, scene):
    """All rows of looks that the call can come to: a search through all collects."""
    closed = closed_rows(trust, stock)
    shown, seen = set(), set()
    todo = [(None, scene[1], scene[2], scene[4])]
    while todo:
        state = todo.pop()
        if state in seen:
            continue
        seen.add(state)
        first, last, known, rows = state
        for row in rows_of_collects(store[1] - store[2], rows, closed):
            came = outcome_by_words(trust, stock, scene, first or row, last, join(known, row), row)
            if came is None:
                told = tuple(had if had is None else join(had, row) for had in rows)
                todo.append((first or row, row, join(known, row), told))
            elif came[0] == "look":
                shown.add(came[1])
    return sorted(shown)


def drawn_scene(draw, trust, store, stock, liars):
    """A scene over the stock, whose hand has told some row back, or none; None if there is none of its hand."""
    closed, top = closed_rows(trust, stock), row_of_tuples(stock)
    hand = draw.randrange(store[0])
    lasts = [row for row in closed if row[hand] == top[hand]] + ([None] if top[hand] == 0 else [])
    if not lasts:
        return None
    last = draw.choice(lasts)
    low = (0,) * store[0] if last is None else last
    mine = tuple(many if k == hand or draw.random() < 0.3 else draw.randint(low[k], many) for k, many in enumerate(top))
    took = ()
    if last is not None and draw.random() < 0.4:
        under = [row for row in product(*(range(item + 1) for item in last)) if row[hand] == last[hand]]
        for row in sorted(draw.sample(under, min(len(under), draw.randint(1, 2)))):
            if not took or below(took[-1], row):
                took += (row,)
    lying = draw.sample(range(store[1]), liars)
    rows = tuple(None if house in lying else draw.choice(closed) for house in range(store[1]))
    return (hand, last, mine, took, rows)


def drawn_plan(draw, trust, store, stock, scene):
    closed = closed_rows(trust, stock)
    need = store[1] - store[2]
    plan, once, rising = (), closed[0], draw.random() < 0.5
    for _ in range(draw.randint(0, 4)):
        houses = sorted(draw.sample(range(store[1]), need))
        once = draw.choice([row for row in closed if below(once, row) or not rising])
        plan += (tuple((house, draw.choice((once, once, draw.choice(closed))) if scene[4][house] is None else None)
                       for house in houses),)
    return plan


def lagging_stock(draw, store, sheets):
    """A book and a stock in it, whose looks are on one line that rises slowly; the last hand has none."""
    book, stock, last = Book(store), [()] * store[0], (0,) * store[0]
    for _ in range(sheets):
        # Hand 1 has the most sheets.
        hand = draw.choice((1, 1, draw.randrange(store[0] - 1)))
        had = tuple(len(names) for names in stock)
        row = tuple(draw.randint(low, high) if draw.random() < 0.15 else low for low, high in zip(last, had))
        last = row = row[:hand] + (had[hand],) + row[hand + 1:]
        stock[hand] += (book.sheet(hand, had[hand] + 1, (book.look(row),)),)
    return book, tuple(stock)


def late_scene(draw, trust, store, stock, liars):
    """A scene of the last hand, which has done nothing; most houses know little."""
    closed = sorted(closed_rows(trust, stock), key=sum)
    last = draw.choice((None, None, *closed[:4]))
    mine = join(closed[0], *([] if last is None else [last]), draw.choice((closed[0], draw.choice(closed))))
    low = closed[:max(1, len(closed) // 3)]
    rows = [draw.choice((draw.choice(low), draw.choice(low), draw.choice(closed))) for _ in range(store[1])]
    for house in draw.sample(range(store[1]), liars):
        rows[house] = None
    return (store[0] - 1, last, mine, (), tuple(rows))


STORES = [(1, 1, 0), (2, 1, 0), (2, 2, 0), (2, 3, 0), (2, 4, 1), (2, 4, 1), (3, 4, 1), (3, 4, 1), (3, 2, 0), (3, 1, 0),
          (2, 5, 1), (3, 5, 1), (4, 2, 0), (2, 7, 2)]


def drawn_scenes(seed, many, most_sheets=5, with_book=False):
    draw = random.Random(seed)
    while many:
        store = draw.choice(STORES)
        book, stock = drawn_stock(draw, store, draw.randint(0, most_sheets), draw.random() < 0.7)
        scene = drawn_scene(draw, book.trust, store, stock, draw.randint(0, store[1]))
        if scene is not None:
            many -= 1
            yield draw, book if with_book else book.trust, store, stock, scene


class Example(unittest.TestCase):
    def setUp(self):
        self.store = (2, 4, 1)
        book = Book(self.store)
        self.trust = book.trust
        self.stock = ((book.sheet(0, 1, (book.look((0, 0)),)),), ())

    def shown(self, rows):
        return rows_shown(self.trust, self.store, self.stock, (1, None, (0, 0), (), rows))

    def test_by_hand(self):
        low, high = (0, 0), (1, 0)
        self.assertEqual(self.shown((low, low, low, high)), [(0, 0), (1, 0)])
        scene = (1, None, low, (), (low, low, low, high))
        collect = ((0, None), (1, None), (3, None))
        self.assertEqual(led(self.trust, self.store, self.stock, scene, (collect, collect)), ("look", (1, 0)))
        self.assertEqual(self.shown((low, low, low, None)), [(0, 0), (1, 0)])
        for row in (low, high):
            collect = ((0, None), (1, None), (3, row))
            scene = (1, None, low, (), (low, low, low, None))
            self.assertEqual(led(self.trust, self.store, self.stock, scene, (collect, collect)), ("look", row))
        self.assertEqual(self.shown((high, high, high, None)), [(1, 0)])

    def test_by_names(self):
        scene = (1, None, (0, 0), (), ((0, 0),) * 4)
        self.assertIs(is_scene(trust=self.trust, store=self.store, stock=self.stock, value=scene), True)
        plan = plan_to_show(trust=self.trust, store=self.store, stock=self.stock, scene=scene, row=(0, 0))
        self.assertEqual(led(trust=self.trust, store=self.store, stock=self.stock, scene=scene, plan=plan), ("look", (0, 0)))
        self.assertEqual(rows_shown(trust=self.trust, store=self.store, stock=self.stock, scene=scene), [(0, 0)])

    def test_the_list_is_new(self):
        scene = (1, None, (0, 0), (), (None,) * 4)
        rows_shown(self.trust, self.store, self.stock, scene).clear()
        self.assertEqual(rows_shown(self.trust, self.store, self.stock, scene), [(0, 0), (1, 0)])

    def test_with_more_liars_no_fewer_rows(self):
        low, high = (0, 0), (1, 0)
        for rows in product((low, high), repeat=4):
            for house in range(4):
                more = rows[:house] + (None,) + rows[house + 1:]
                self.assertLessEqual(set(self.shown(rows)), set(self.shown(more)))


class Scenes(unittest.TestCase):
    def setUp(self):
        # Hand 0 has two sheets, the second one seeing that of hand 1; hand 2 has none.
        self.store = (3, 2, 0)
        book = Book(self.store)
        self.trust = book.trust
        first = book.sheet(0, 1, (book.look((0, 0, 0)),))
        other = book.sheet(1, 1, (book.look((1, 0, 0)),))
        self.stock = ((first, book.sheet(0, 2, (book.look((1, 1, 0)),))), (other,), ())

    def check(self, scene, told):
        self.assertIs(is_scene(self.trust, self.store, self.stock, scene), told, scene)
        if told:
            self.assertIs(is_scene_by_words(self.trust, self.store, self.stock, scene), True)

    def test_scenes(self):
        no, rows = (0, 0, 0), ((0, 0, 0), (2, 1, 0))
        for scene, told in (
                ((2, None, no, (), rows), True), ((2, None, (2, 1, 0), (), rows), True), ((2, None, (1, 1, 0), (), rows), True),
                # What the hand has need not be closed; what it told back is.
                ((2, None, (0, 1, 0), (), rows), True), ((2, (0, 1, 0), (2, 1, 0), (), rows), False), ((2, (1, 1, 0), (2, 1, 0), (), rows), True),
                ((2, None, no, (no,), rows), False), ((2, None, no, ((),), rows), False), ((2, None, (3, 1, 0), (), rows), False), ((2, None, (2, 1, 1), (), rows), False),
                ((0, None, (2, 0, 0), (), rows), False), ((0, (2, 1, 0), (2, 1, 0), (), rows), True), ((0, (2, 1, 0), (1, 1, 0), (), rows), False),
                ((0, (1, 1, 0), (2, 1, 0), (), rows), False), ((1, (1, 1, 0), (2, 1, 0), (), rows), True), ((1, (1, 1, 0), (1, 0, 0), (), rows), False),
                ((2, no, no, (), rows), True), ((2, no, no, (no,), rows), True), ((2, (1, 0, 0), (1, 0, 0), (no, (1, 0, 0)), rows), True),
                ((2, (1, 0, 0), (1, 0, 0), ((1, 0, 0), no), rows), False), ((2, (1, 0, 0), (1, 0, 0), (no, no), rows), False),
                ((2, (1, 0, 0), (1, 0, 0), ((0, 1, 0),), rows), False), ((2, (2, 1, 0), (2, 1, 0), ((0, 1, 0),), rows), True),
                ((2, (2, 1, 0), (2, 1, 0), ((0, 0, 1),), rows), False), ((2, (2, 1, 0), (2, 1, 0), ((0, 1, 0), (1, 0, 0)), rows), False),
                ((1, (2, 1, 0), (2, 1, 0), ((1, 1, 0), (2, 1, 0)), rows), True), ((1, (2, 1, 0), (2, 1, 0), ((1, 0, 0), (2, 1, 0)), rows), False),
                ((2, (1, 1, 0), (2, 1, 0), ((2, 1, 0),), rows), False), ((0, (2, 1, 0), (2, 1, 0), ((2, 0, 0),), rows), True),
                ((0, (2, 1, 0), (2, 1, 0), ((2, 0),), rows), False), ((0, (2, 1, 0), (2, 1, 0), ((2,), (2, 0, 0)), rows), False),
                ((0, (2, 1, 0), (2, 1, 0), ((2, 0, 0, 0),), rows), False), ((0, (2, 1, 0), (2, 1, 0), [(2, 0, 0)], rows), False)):
            self.check(scene, told)

    def test_rows_of_houses(self):
        for rows, told in (((None, None), True), (((0, 0, 0), None), True), (((2, 1, 0), (1, 0, 0)), True), (((2, 0, 0), None), False), (((0, 1, 0), None), False),
                           (((1, 0, 0),), False), ((None,) * 3, False), ((), False), (((3, 1, 0), None), False), (((0, 0, 0, 0), None), False)):
            self.check((2, None, (0, 0, 0), (), rows), told)

    def test_other_values(self):
        scene = (1, (1, 1, 0), (2, 1, 0), ((0, 1, 0), (1, 1, 0)), ((1, 0, 0), (2, 1, 0)))
        self.check(scene, True)
        for value in (*odd_values(), scene[:4], scene + ((),), (3, *scene[1:]), (-1, *scene[1:])):
            self.check(value, False)
        for value in bends(scene):
            # One who lies has no row, and where no row was told back nothing was taken.
            self.check(value, value[4] in ((None, scene[4][1]), (scene[4][0], None)) if value.__class__ is tuple else False)

    def test_drawn(self):
        told = {True: 0, False: 0}
        for draw, trust, store, stock, scene in drawn_scenes(920, 120):
            self.assertIs(is_scene(trust, store, stock, scene), True)
            top = row_of_tuples(stock)
            for _ in range(8):
                bent = list(scene)
                for _ in range(draw.randint(1, 2)):
                    place = draw.randrange(5)
                    near = tuple(draw.randint(0, many + 1) if draw.random() < 0.3 else draw.randint(0, many) for many in top)
                    bent[place] = {0: draw.randrange(store[0]), 1: draw.choice((None, near)), 2: near,
                                   3: draw.choice(((), (near,), scene[3] + (near,), scene[3][1:])),
                                   4: tuple(draw.choice((had, near)) for had in scene[4])}[place]
                wanted = is_scene_by_words(trust, store, stock, bent)
                self.assertIs(is_scene(trust, store, stock, tuple(bent)), wanted, bent)
                told[wanted] += 1
        self.assertGreater(min(told.values()), 100)


class Led(unittest.TestCase):
    def setUp(self):
        # Hand 1 has three sheets, each with all ahead; hand 0 is to call.
        self.store = (2, 2, 0)
        book = Book(self.store)
        self.trust = book.trust
        self.stock = ((), tuple(book.sheet(1, k + 1, (book.look((0, k)),)) for k in range(3)))

    def led(self, scene, *rows):
        """What comes of collects with these rows, told by two liars."""
        plan = tuple(((0, row), (1, row)) for row in rows)
        told = led(self.trust, self.store, self.stock, scene, plan)
        self.assertEqual(told, led_by_words(self.trust, self.stock, scene, plan))
        return told

    def test_by_hand(self):
        scene = (0, None, (0, 0), (), (None, None))
        for rows, told in (((), ("open", None)), (((0, 1),), ("open", (0, 1))), (((0, 1), (0, 1)), ("look", (0, 1))), (((0, 0), (0, 1)), ("open", (0, 1))),
                           (((0, 1), (0, 0)), ("lied", "back")), (((0, 0), (0, 2)), ("look", (0, 1))), (((0, 0), (0, 3)), ("look", (0, 2))),
                           (((0, 1), (0, 3)), ("look", (0, 2))), (((0, 1), (0, 2)), ("open", (0, 2))), (((0, 0), (0, 1), (0, 2)), ("look", (0, 1))),
                           (((0, 1), (0, 1), (0, 0)), ("look", (0, 1)))):
            self.assertEqual(self.led(scene, *rows), told)

    def test_a_last_row(self):
        scene = (0, (0, 1), (0, 2), (), (None, None))
        for rows, told in (((), ("open", (0, 1))), (((0, 1),), ("look", (0, 1))), (((0, 0),), ("lied", "back")), (((0, 2),), ("open", (0, 2))), (((0, 3), (0, 3)), ("look", (0, 3))),
                           (((0, 2), (0, 1)), ("lied", "back"))):
            self.assertEqual(self.led(scene, *rows), told)
        # With all sheets told back, no sheet has a look that is above the last row.
        self.assertEqual(self.led((0, (0, 3), (0, 3), ((0, 2), (0, 3)), (None, None)), (0, 3)), ("look", (0, 3)))
        self.assertEqual(rows_shown(self.trust, self.store, self.stock, (0, (0, 3), (0, 3), (), (None, None))), [(0, 3)])
        self.assertEqual(rows_shown(self.trust, self.store, self.stock, (0, (0, 2), (0, 2), (), (None, None))), [(0, 2), (0, 3)])

    def test_lent_with_one_liar_and_with_none(self):
        scene = (0, None, (0, 0), (), ((0, 0), (0, 0)))
        self.assertEqual(rows_shown(self.trust, self.store, self.stock, scene), [(0, 0)])
        # No house that keeps to its rules has sheet 3, and yet its look is lent.
        scene = (0, None, (0, 0), (), ((0, 0), None))
        self.assertEqual(rows_shown(self.trust, self.store, self.stock, scene), [(0, 0), (0, 1), (0, 2), (0, 3)])
        for row in ((0, 0), (0, 1), (0, 2), (0, 3)):
            self.assertEqual(led(self.trust, self.store, self.stock, scene, plan_to_show(self.trust, self.store, self.stock, scene, row)), ("look", row))
        self.assertIsNone(plan_to_show(self.trust, self.store, self.stock, scene, (0, 4)))
        self.assertIsNone(plan_to_show(self.trust, self.store, self.stock, scene, (1, 0)))

    def test_lent_by_houses_that_keep_to_their_rules(self):
        store = (2, 4, 1)
        book = Book(store)
        stock = ((), tuple(book.sheet(1, k + 1, (book.look((0, k)),)) for k in range(3)))
        low = ((0, 0),) * 3
        # Three houses that have nothing are heard first, then one that has three sheets: it brings the third one.
        self.assertEqual(rows_shown(book.trust, store, stock, (0, None, (0, 0), (), low + ((0, 3),))), [(0, 0), (0, 2), (0, 3)])
        self.assertEqual(rows_shown(book.trust, store, stock, (0, None, (0, 0), (), low + ((0, 1),))), [(0, 0), (0, 1)])
        self.assertEqual(rows_shown(book.trust, store, stock, (0, (0, 0), (0, 0), (), low + ((0, 3),))), [(0, 0), (0, 3)])
        # All four are to be heard for the joined row.
        rows = ((0, 0), (0, 0), (0, 1), (0, 2))
        self.assertEqual(rows_shown(book.trust, store, stock, (0, None, (0, 0), (), rows)), [(0, 1), (0, 2)])

    def test_a_lent_row_that_is_not_above_the_last_one(self):
        book = Book((3, 1, 0))
        stock = ((book.sheet(0, 1, (book.look((0, 0, 0)),)),), tuple(book.sheet(1, k + 1, (book.look((0, k, 0)),)) for k in range(3)), ())
        for last, first, told in (((1, 0, 0), (1, 1, 0), ("lied", "lent")), ((0, 0, 0), (1, 1, 0), ("look", (0, 2, 0))), (None, (1, 0, 0), ("look", (0, 2, 0)))):
            scene = (2, last, (1, 0, 0), (), (None,))
            self.assertEqual(led(book.trust, (3, 1, 0), stock, scene, (((0, first),), ((0, (1, 3, 0)),))), told)
            self.assertEqual((0, 2, 0) in rows_shown(book.trust, (3, 1, 0), stock, scene), told[0] == "look")
        draw, lied = random.Random(923), 0
        for _ in range(1500):
            scene = drawn_scene(draw, book.trust, (3, 1, 0), stock, 1)
            while scene is None or scene[0] != 2:
                scene = drawn_scene(draw, book.trust, (3, 1, 0), stock, 1)
            plan = drawn_plan(draw, book.trust, (3, 1, 0), stock, scene)
            told = led(book.trust, (3, 1, 0), stock, scene, plan)
            self.assertEqual(told, led_by_words(book.trust, stock, scene, plan))
            self.assertEqual(rows_shown(book.trust, (3, 1, 0), stock, scene), shown_by_search(book.trust, (3, 1, 0), stock, scene))
            lied += told == ("lied", "lent")
        self.assertGreater(lied, 0)

    def lent_stock(self, hands):
        """Two sheets of hand 0, then two of hand 1 that see them, and one of hand 2 that sees nothing, if there is a hand more."""
        book, more = Book((hands, 4, 1)), (0,) * (hands - 2)
        first = tuple(book.sheet(0, k + 1, (book.look((k, 0, *more)),)) for k in range(2))
        second = tuple(book.sheet(1, k + 1, (book.look((2, k, *more)),)) for k in range(2))
        third = ((book.sheet(2, 1, (book.look((0, 0, *more)),)),),) if hands == 4 else ()
        return book, (first, second, *third, ())

    def test_the_least_hand_lends(self):
        book, stock = self.lent_stock(3)
        scene = (2, None, (0, 0, 0), (), ((0, 0, 0),) * 3 + ((2, 2, 0),))
        self.assertEqual(rows_shown(book.trust, (3, 4, 1), stock, scene), [(0, 0, 0), (1, 0, 0), (2, 2, 0)])
        scene = (2, None, (0, 0, 0), (), ((1, 0, 0),) * 3 + ((2, 2, 0),))
        self.assertEqual(rows_shown(book.trust, (3, 4, 1), stock, scene), [(1, 0, 0), (2, 1, 0), (2, 2, 0)])

    def test_lent_though_an_honest_house_has_what_the_look_has_not(self):
        book, stock = self.lent_stock(4)
        for lent in ((1, 0, 0, 0), (2, 1, 0, 0)):
            # A look of the first sheet of hand 1 has no sheet of it ahead, so that two more cannot be told.
            scene = (3, None, (0, 0, 0, 0), (), ((0, 0, 1, 0), None, (0, 0, 1, 0), (0, 0, 1, 0)))
            self.assertIn(lent, rows_shown(book.trust, (4, 4, 1), stock, scene))
            plan = plan_to_show(book.trust, (4, 4, 1), stock, scene, lent)
            self.assertEqual(led(book.trust, (4, 4, 1), stock, scene, plan), ("look", lent))
        self.assertNotIn((2, 0, 0, 0), rows_shown(book.trust, (4, 4, 1), stock, scene))
        self.assertEqual(rows_shown(book.trust, (4, 4, 1), stock, scene), shown_by_search(book.trust, (4, 4, 1), stock, scene))

    def test_what_is_collected_ahead_of_a_lent_look_is_as_little_as_can_be(self):
        store, no = (4, 2, 0), (0, 0, 0, 0)
        # Hands and the looks of their sheets, one behind another; and the row that is lent.
        for looks, lent in (([(0, (0, 0)), (1, (1, 0)), (1, (1, 1)), (0, (1, 2))], (1, 2, 0, 0)),
                            ([(0, (0, 0)), (1, (1, 0)), (0, (1, 1)), (1, (2, 1))], (2, 1, 0, 0))):
            book, stock = Book(store), [(), (), (), ()]
            for hand, row in looks + [(2, (0, 0))]:
                stock[hand] += (book.sheet(hand, len(stock[hand]) + 1, (book.look((*row, 0, 0)),)),)
            for last in (None, no):
                scene = (3, last, no, (), ((0, 0, 1, 0), None))
                told = rows_shown(book.trust, store, tuple(stock), scene)
                self.assertEqual(told, shown_by_search(book.trust, store, tuple(stock), scene))
                self.assertIn(lent, told)
                plan = plan_to_show(book.trust, store, tuple(stock), scene, lent)
                self.assertEqual(led(book.trust, store, tuple(stock), scene, plan), ("look", lent))

    def test_looks_that_tell_of_sheets_that_nobody_sealed(self):
        store = (3, 1, 0)
        book = Book(store)
        stock = ((book.sheet(0, 1, (book.look((0, 5, 0)),)), book.sheet(0, 2, (book.look((1, 5, 0)),))), (book.sheet(1, 1, (book.look((2, 0, 0)),)),), ())
        for last in (None, (0, 0, 0)):
            for house in ((0, 0, 0), None):
                scene = (2, last, (0, 0, 0), (), (house,))
                self.assertEqual(rows_shown(book.trust, store, stock, scene), [(0, 0, 0)])
                self.assertEqual(shown_by_search(book.trust, store, stock, scene), [(0, 0, 0)])
                for row in ((2, 0, 0), (1, 5, 0), (0, 5, 0), (2, 5, 0)):
                    self.assertIsNone(plan_to_show(book.trust, store, stock, scene, row))

    def test_what_is_lent_and_what_the_hand_has_must_go_together(self):
        store, no = (4, 4, 1), (0, 0, 0, 0)
        book = Book(store)
        stock = ((book.sheet(0, 1, (book.look(no),)),), (book.sheet(1, 1, (book.look(no),)), book.sheet(1, 2, (book.look((0, 1, 0, 0)),))),
                 (book.sheet(2, 1, (book.look((1, 0, 0, 0)),)),), ())
        for mine, told in ((no, [no, (0, 1, 0, 0), (0, 2, 0, 0)]), ((1, 0, 1, 0), [no])):
            scene = (3, None, mine, (), (no, no, no, (0, 2, 0, 0)))
            self.assertEqual(rows_shown(book.trust, store, stock, scene), told)
            self.assertEqual(shown_by_search(book.trust, store, stock, scene), told)

    def test_a_joined_row_for_which_all_are_to_be_heard(self):
        store, top = (5, 4, 1), (1, 1, 1, 1, 0)
        book = Book(store)
        stock = (*((book.sheet(hand, 1, (book.look((0,) * 5),)),) for hand in range(4)), ())
        rows = tuple((0,) * house + (1,) + (0,) * (4 - house) for house in range(4))
        threes = sorted(join(*(rows[k] for k in range(4) if k != house)) for house in range(4))
        self.assertEqual(rows_shown(book.trust, store, stock, (4, None, (0,) * 5, (), rows)), threes + [top])
        # No three houses are at or above what was told back: each collect goes back.
        self.assertEqual(rows_shown(book.trust, store, stock, (4, top, top, (), rows)), [])
        self.assertEqual(rows_shown(book.trust, store, stock, (4, threes[0], top, (), rows)), [threes[0]])
        for last in (None, top, threes[0], threes[1], (0, 0, 0, 0, 0), (0, 1, 0, 0, 0)):
            scene = (4, last, top, (), rows)
            self.assertEqual(rows_shown(book.trust, store, stock, scene), shown_by_search(book.trust, store, stock, scene))

    def test_houses_that_have_more_are_not_heard(self):
        store = (2, 7, 2)
        book = Book(store)
        stock = (tuple(book.sheet(0, k + 1, (book.look((k, 0)),)) for k in range(2)), ())
        scene = (1, None, (0, 0), (), ((0, 0),) * 5 + ((1, 0), (2, 0)))
        self.assertEqual(rows_shown(book.trust, store, stock, scene), [(0, 0), (1, 0), (2, 0)])
        for row in ((0, 0), (1, 0), (2, 0)):
            self.assertEqual(led(book.trust, store, stock, scene, plan_to_show(book.trust, store, stock, scene, row)), ("look", row))

    def test_parted_rows(self):
        book = Book((3, 1, 0))
        stock = ((book.sheet(0, 1, (book.look((0, 1, 0)),)),), (book.sheet(1, 1, (book.look((1, 0, 0)),)),), ())
        for mine in ((0, 0, 0), (1, 1, 0)):
            scene = (2, None, mine, (), (None,))
            told = led(book.trust, (3, 1, 0), stock, scene, (((0, (0, 0, 0)),),))
            self.assertEqual(told, ("lied", "parted") if mine[0] else ("open", (0, 0, 0)))
            self.assertEqual(led(book.trust, (3, 1, 0), stock, scene, (((0, (1, 1, 0)),),)), ("lied", "parted"))
            self.assertEqual(rows_shown(book.trust, (3, 1, 0), stock, scene), [] if mine[0] else [(0, 0, 0)])

    def test_parted_rows_of_two_collects_that_go_back(self):
        # Each collect is right by itself; what the hand knows behind both is parted, and that is looked at first.
        store, no = (5, 1, 0), (0,) * 5
        book = Book(store)
        first, second = book.look((1, 0, 0, 0, 0)), book.look((0, 1, 0, 0, 0))
        stock = (*((book.sheet(hand, 1, (look,)),) for hand, look in enumerate((book.look(no), book.look(no), first, second))), ())
        for scene in ((4, None, no, (), (None,)), (4, no, no, (no,), (None,))):
            for rows, told in ((((1, 0, 1, 0, 0), (0, 1, 0, 1, 0)), ("lied", "parted")), (((1, 0, 1, 0, 0), (0, 1, 0, 0, 0)), ("lied", "back")),
                               (((1, 0, 0, 0, 0), (0, 1, 0, 1, 0)), ("lied", "back")), (((1, 0, 0, 0, 0), (1, 1, 1, 1, 0)), ("lied", "parted"))):
                plan = tuple(((0, row),) for row in rows)
                self.assertEqual(led(book.trust, store, stock, scene, plan), told)
                self.assertEqual(led_by_words(book.trust, stock, scene, plan), told)

    def test_drawn(self):
        seen = {}
        for draw, trust, store, stock, scene in drawn_scenes(921, 700, 7):
            for _ in range(6):
                plan = drawn_plan(draw, trust, store, stock, scene)
                told = led(trust, store, stock, scene, plan)
                self.assertEqual(told, led_by_words(trust, stock, scene, plan), (stock, scene, plan))
                seen[told if told[0] == "lied" else told[0]] = True
        self.assertLessEqual({"open", "look", ("lied", "parted"), ("lied", "back")}, set(seen))

    def test_bent_plans(self):
        for draw, trust, store, stock, scene in drawn_scenes(922, 12):
            plan = drawn_plan(draw, trust, store, stock, scene)
            closed = closed_rows(trust, stock)
            for bent in bends(plan):
                # An answer told in the place of another one of the same liar is right again.
                with self.assertRaises(BadPlan):
                    led(trust, store, stock, scene, bent)
            for k, collect in enumerate(plan):
                house, row = collect[0]
                open_row = tuple(many + 1 for many in row_of_tuples(stock))
                wrong = [collect[:-1], collect + collect[-1:], ((house, open_row),) + collect[1:], collect[::-1] if len(collect) > 1 else (),
                         ((house, None if row else closed[0]),) + collect[1:], ((store[1], row),) + collect[1:], ((house, row, row),) + collect[1:]]
                for bent in wrong:
                    with self.assertRaises(BadPlan):
                        led(trust, store, stock, scene, plan[:k] + (bent,) + plan[k + 1:])


class Exactly(unittest.TestCase):
    def test_against_a_search_of_all_collects(self):
        seen = {}
        for _, trust, store, stock, scene in drawn_scenes(930, 1500):
            wanted = shown_by_search(trust, store, stock, scene)
            self.assertEqual(rows_shown(trust, store, stock, scene), wanted, (store, scene))
            for row in product(*(range(len(sheets) + 2) for sheets in stock)):
                plan = plan_to_show(trust, store, stock, scene, row)
                self.assertEqual(plan is not None, row in wanted)
                if plan is not None:
                    self.assertEqual(led(trust, store, stock, scene, plan), ("look", row))
                    self.assertEqual(led_by_words(trust, stock, scene, plan), ("look", row))
            lying = sum(row is None for row in scene[4])
            kind = "none" if not lying else "all" if lying == store[1] else "more" if lying > store[2] else "few"
            seen[kind] = seen.get(kind, 0) + (len(wanted) > 0)
        self.assertGreater(min(seen[kind] for kind in ("none", "few", "more", "all")), 20)

    def test_longer_stocks(self):
        # More sheets of few hands: more of what is lent.
        draw = random.Random(931)
        lent = 0
        for _ in range(250):
            store = draw.choice(((2, 2, 0), (2, 4, 1), (3, 3, 0), (3, 4, 1)))
            book, stock = drawn_stock(draw, store, 9, True)
            scene = drawn_scene(draw, book.trust, store, stock, draw.choice((0, 0, 1)))
            if scene is not None:
                wanted = shown_by_search(book.trust, store, stock, scene)
                self.assertEqual(rows_shown(book.trust, store, stock, scene), wanted, (store, scene))
                lent += sum(not any(had is not None and below(row, had) for had in scene[4]) for row in wanted)
        self.assertGreater(lent, 20)

    def test_looks_that_lag_behind(self):
        # Each look has few sheets of others, so that houses have much that a lent look has not.
        draw = random.Random(933)
        lent = {"honest": 0, "liars": 0}
        for _ in range(900):
            store, liars = draw.choice((((3, 4, 1), 0), ((4, 4, 1), 0), ((3, 5, 1), 0), ((3, 4, 1), 1), ((3, 2, 0), 1), ((3, 3, 0), 1), ((4, 2, 0), 1)))
            book, stock = lagging_stock(draw, store, draw.randint(3, 7))
            scene = late_scene(draw, book.trust, store, stock, liars)
            shown = rows_shown(book.trust, store, stock, scene)
            self.assertEqual(shown, shown_by_search(book.trust, store, stock, scene), (store, scene))
            for row in shown:
                plan = plan_to_show(book.trust, store, stock, scene, row)
                self.assertEqual(led_by_words(book.trust, stock, scene, plan), ("look", row))
                self.assertEqual(led(book.trust, store, stock, scene, plan), ("look", row))
                below_it = sum(had is None or below(had, row) for had in scene[4])
                lent["liars" if None in scene[4] else "honest"] += below_it < store[1] - store[2]
        self.assertGreater(min(lent.values()), 15, lent)

    def test_a_call_that_is_shown_what_had_ended(self):
        # With at most lies liars, what need houses keep is in each row that is shown.
        for _, trust, store, stock, scene in drawn_scenes(932, 150):
            lying = sum(row is None for row in scene[4])
            for row in rows_shown(trust, store, stock, scene) if lying <= store[2] else []:
                for hand in range(store[0]):
                    kept = sorted((had[hand] for had in scene[4] if had is not None), reverse=True)
                    self.assertGreaterEqual(row[hand], kept[store[1] - store[2] - lying - 1] if store[1] - store[2] > lying else 0)


class TooManyRows(unittest.TestCase):
    def setUp(self):
        self.store = (3, 1, 0)
        book = Book(self.store)
        self.trust = book.trust
        stock, had = [(), (), ()], (0, 0, 0)
        for k in range(28):
            stock[k % 3] += (book.sheet(k % 3, k // 3 + 1, (book.look(had),)),)
            had = had[:k % 3] + (had[k % 3] + 1,) + had[k % 3 + 1:]
        self.more = tuple(stock)
        self.most = (stock[0][:9], stock[1], stock[2])

    def test_just_1000_rows_and_more(self):
        scene = (1, (9, 9, 9), (9, 9, 9), (), ((9, 9, 9),))
        self.assertEqual(rows_shown(self.trust, self.store, self.most, scene), [(9, 9, 9)])
        # All rows of the line, from the last one of the hand on.
        scene = (1, (9, 9, 8), (9, 9, 8), (), (None,))
        self.assertEqual(rows_shown(self.trust, self.store, self.most, scene), [(9, 9, 8), (9, 9, 9)])
        with self.assertRaises(TooMany) as caught:
            rows_shown(self.trust, self.store, self.more, (1, (9, 9, 9), (9, 9, 9), (), ((9, 9, 9),)))
        self.assertEqual(caught.exception.most, 1000)
        # Not so for one plan.
        scene = (1, (9, 9, 9), (9, 9, 9), (), (None,))
        plan = plan_to_show(self.trust, self.store, self.more, scene, (10, 9, 9))
        self.assertEqual(led(self.trust, self.store, self.more, scene, plan), ("look", (10, 9, 9)))

    def test_behind_all_others(self):
        check_sequence(self, rows_shown, [self.trust, self.store, self.more, None], [
            (0, None, BadTrust), (1, None, BadStore), (2, None, BadStock), (3, None, BadScene)])


class Errors(unittest.TestCase):
    def setUp(self):
        self.store = (2, 1, 0)
        book = Book(self.store)
        self.trust = book.trust
        self.stock = ((book.sheet(0, 1, (book.look((0, 0)),)),), ())
        self.scene = (1, (0, 0), (1, 0), (), (None,))
        self.args = [self.trust, self.store, self.stock, self.scene]

    def test_errors(self):
        stocks = [*odd_values(), self.stock[:1], self.stock[::-1], self.stock + ((),), *bends(self.stock)]
        scenes = [*odd_values(), self.scene[:4], *[bent for bent in bends(self.scene) if not bent[1] is None]]
        for call, rest in ((led, [((((0, (1, 0)),)),)]), (plan_to_show, [(1, 0)]), (rows_shown, []), (is_scene, None)):
            args = self.args + (rest or [])
            check_refused(self, BadTrust, call, args, 0, NO_TRUST)
            check_refused(self, BadStore, call, args, 1, NO_STORE)
            check_refused(self, BadStock, call, args, 2, stocks)
            if call is not is_scene:
                check_refused(self, BadScene, call, args, 3, scenes)
        check_refused(self, BadPlan, led, self.args + [()], 4, [*[value for value in odd_values() if value != ()], [], (((0, None),),), (((0, (0, 1)),),)])
        check_refused(self, BadRow, plan_to_show, self.args + [(1, 0)], 4, [*odd_values(), (1,), (1, 0, 0), [1, 0], *bends((1, 0))])

    def test_sequence(self):
        bad = [(0, None, BadTrust), (1, None, BadStore), (2, None, BadStock), (3, None, BadScene)]
        check_sequence(self, led, self.args + [()], bad + [(4, None, BadPlan)])
        check_sequence(self, plan_to_show, self.args + [(0, 0)], bad + [(4, None, BadRow)])
        check_sequence(self, rows_shown, self.args, bad)
        check_sequence(self, is_scene, self.args, bad[:3])


if __name__ == "__main__":
    unittest.main()
