"""Points 12 and 13: who was first, and plans of two hands."""

import random
import unittest
from itertools import permutations, product

from seenatonce.errors import (BadDeed, BadHand, BadPlans, BadState, BadTable, BadTeller, BadView, BadWeaving,
                               NotSettling, WrongPlans)
from seenatonce.settling import (blurred, choice_of, goes_wrong, is_plan, kind_of, settles_at, settling_plans,
                                 telling_deeds, turning_point, woven)
from seenatonce.tables import (cells_table, commute, counting_table, greatest_table, growing_table, is_served,
                               overwrites, with_look)
from tests.helpers import bends, check_refused, check_sequence, drawn_table, drawn_tables, odd_values

# Two numbers that are swapped, put in with the answer of what was there, and a look.
BY_HAND = (((0, 0), (0, 1)), ((1, 0), (1, 1)), ((0, 0), (1, 1)))
ONE = (((0, 0),),)
LARGE = drawn_table(random.Random(40), 30, 12, 3)
NO_STATE = [None, True, False, -1, 2, 10 ** 18, "0", (0,), [], {}]
NO_DEED = [None, True, False, -1, 3, 10 ** 18, "0", (0,), [], {}]
SAY0, SAY1 = ("say", 0), ("say", 1)
WAYS = [way for way in permutations([("deed", 0), ("look", 0), ("deed", 1), ("look", 1)])
        if way.index(("deed", 0)) < way.index(("look", 0)) and way.index(("deed", 1)) < way.index(("look", 1))]


def told_in(table, state, deeds, way):
    """Of a way in which deeds and looks are done, or a part of it: the views of hands that looked, and who did."""
    answers, views, did = {}, {}, set()
    for what, hand in way:
        if what == "deed":
            state, answers[hand] = table[deeds[hand]][state]
            did.add(hand)
        else:
            views[hand] = (answers[hand], state)
    return views, did


def parts_of_ways():
    """All six ways, also those in which a hand stops ahead of its deed, or ahead of its look."""
    stopped = ((), (("deed", 0), ("look", 0)), (("deed", 1), ("look", 1)), (("look", 0),), (("look", 1),),
               (("look", 0), ("look", 1)), (("deed", 0), ("look", 0), ("look", 1)), (("deed", 1), ("look", 1), ("look", 0)))
    return {tuple(act for act in way if act not in left) for way in WAYS for left in stopped}


def rules_by_search(table, state, one, other):
    """All rules (hand, view) -> told by which all that is told is the same, and the hand itself where it is alone."""
    runs = [told_in(table, state, (one, other), way) for way in sorted(parts_of_ways())]
    views = sorted({(hand, view) for told, _ in runs for hand, view in told.items()})
    rules = []
    for choices in product((0, 1), repeat=len(views)):
        rule = dict(zip(views, choices))
        right = True
        for told, did in runs:
            says = [rule[(hand, view)] for hand, view in told.items()]
            right = right and len(set(says)) <= 1
            if len(did) == 1:
                right = right and all(say in did for say in says)
        if right:
            rules.append(rule)
    return rules


def plain_blurred(table, state, one, other):
    """By the words: the least triple of a view as the first one, and as the second one."""
    found = []
    for hand, mine, others in ((0, one, other), (1, other, one)):
        alone, a = table[mine][state]
        firsts = [(a, alone), (a, table[others][alone][0])]
        ahead = table[others][state][0]
        z, b = table[mine][ahead]
        found += [(hand, *view) for view in firsts if view == (b, z)]
    return min(found) if found else None


def settling_places(table):
    return [(state, one, other) for state in range(len(table[0])) for one in range(len(table))
            for other in range(len(table)) if plain_blurred(table, state, one, other) is None]


class WhoWasFirst(unittest.TestCase):
    def test_by_hand(self):
        self.assertEqual(blurred(BY_HAND, 0, 0, 1), (1, 0, 1))
        self.assertIsNone(blurred(table=BY_HAND, state=0, one=1, other=1))
        self.assertIs(settles_at(BY_HAND, 0, 1, 1), True)
        self.assertIs(settles_at(table=BY_HAND, state=0, one=0, other=1), False)
        self.assertEqual(choice_of(BY_HAND, 0, 1, 1, 0, 1, 1), 1)
        self.assertEqual(kind_of(BY_HAND), ("settles", 0, 1, 1, 2))
        self.assertEqual(telling_deeds(BY_HAND), [2])

    def test_there_are_six_ways(self):
        self.assertEqual(len(WAYS), 6)

    def test_blurred_and_rules_drawn(self):
        settled = blurs = 0
        for table in [*drawn_tables(41, 60, 3, 2, 2), *drawn_tables(42, 25, 4, 2, 3), BY_HAND]:
            for state in range(len(table[0])):
                for one, other in product(range(len(table)), repeat=2):
                    told = blurred(table, state, one, other)
                    self.assertEqual(told, plain_blurred(table, state, one, other))
                    rules = rules_by_search(table, state, one, other)
                    self.assertIs(settles_at(table, state, one, other), told is None)
                    self.assertEqual(len(rules), 0 if told else 1)
                    settled += told is None
                    blurs += told is not None and told[0]
                    for rule in rules:
                        for (hand, (answer, seen)), first in rule.items():
                            self.assertEqual(choice_of(table, state, one, other, hand, answer, seen), first)
        self.assertGreater(min(settled, blurs), 20)

    def test_where_deeds_commute_or_overwrite_somebody_is_blurred(self):
        for table in drawn_tables(43, 150, 3, 3, 2):
            for state in range(len(table[0])):
                for one, other in product(range(len(table)), repeat=2):
                    if commute(table, one, other) or overwrites(table, one, other) or overwrites(table, other, one):
                        self.assertIs(settles_at(table, state, one, other), False)

    def test_blurred_errors(self):
        for call in (blurred, settles_at):
            args = [BY_HAND, 0, 1, 1]
            check_refused(self, BadTable, call, args, 0, [*odd_values(), (), BY_HAND[:1] + ((),), *bends(BY_HAND)])
            check_refused(self, BadState, call, args, 1, NO_STATE)
            check_refused(self, BadDeed, call, args, 2, NO_DEED)
            check_refused(self, BadDeed, call, args, 3, NO_DEED)
            check_sequence(self, call, args, [(0, [], BadTable), (1, 2, BadState), (2, 3, BadDeed), (3, 3, BadDeed)])

    def test_choice_of_all_views(self):
        # At state 0 by the deeds 1 and 1: the first one gets 0, the second one 1, both see 1.
        for hand in (0, 1):
            self.assertEqual(choice_of(BY_HAND, 0, 1, 1, hand, 0, 1), hand)
            self.assertEqual(choice_of(table=BY_HAND, state=0, one=1, other=1, hand=hand, answer=1, seen=1), 1 - hand)
        # A counter whose deed tells what it was: the view of the first one has two states.
        table = (((1, 0), (2, 1), (2, 2)),)
        for hand in (0, 1):
            told = [choice_of(table, 0, 0, 0, hand, answer, seen) for answer, seen in ((0, 1), (0, 2), (1, 2))]
            self.assertEqual(told, [hand, hand, 1 - hand])

    def test_choice_of_unlike_deeds(self):
        # Deed 0 puts 1 in and tells what was there, deed 1 puts 2 in and tells what was there.
        table = (((1, 0), (1, 1), (1, 2)), ((2, 0), (2, 1), (2, 2)))
        self.assertEqual([choice_of(table, 0, 0, 1, 0, *view) for view in ((0, 1), (0, 2), (2, 1))], [0, 0, 1])
        self.assertEqual([choice_of(table, 0, 0, 1, 1, *view) for view in ((0, 2), (0, 1), (1, 2))], [1, 1, 0])
        check_refused(self, BadView, choice_of, [table, 0, 0, 1, 0, 0, 1], 5, [1])
        check_refused(self, BadView, choice_of, [table, 0, 0, 1, 1, 0, 1], 6, [0])

    def test_choice_of_errors(self):
        args = [BY_HAND, 0, 1, 1, 0, 0, 1]
        check_refused(self, BadTable, choice_of, args, 0, [*odd_values(), ()])
        check_refused(self, BadState, choice_of, args, 1, NO_STATE)
        check_refused(self, BadDeed, choice_of, args, 2, NO_DEED)
        check_refused(self, BadDeed, choice_of, args, 3, NO_DEED)
        check_refused(self, BadHand, choice_of, args, 4, NO_STATE)
        check_refused(self, BadView, choice_of, args, 5, [None, False, True, -1, 2, 10 ** 18, "0", (0,), [0], {}])
        check_refused(self, BadView, choice_of, args, 6, [None, False, True, -1, 0, 2, 10 ** 18, "1", (1,), [1], {}])
        check_sequence(self, choice_of, args, [
            (0, [], BadTable), (1, 2, BadState), (2, 3, BadDeed), (3, 0, NotSettling), (4, 2, BadHand), (5, 7, BadView)])

    def test_not_settling_bears_what_blurred_tells(self):
        with self.assertRaises(NotSettling) as caught:
            choice_of(BY_HAND, 0, 0, 1, None, None, None)
        error = caught.exception
        self.assertEqual((error.hand, error.answer, error.seen), blurred(BY_HAND, 0, 0, 1))
        for table in drawn_tables(44, 40, 3, 2, 2):
            told = blurred(table, 0, 0, 0)
            if told is not None:
                with self.assertRaises(NotSettling) as caught:
                    choice_of(table, 0, 0, 0, 0, 0, 0)
                error = caught.exception
                self.assertEqual((error.hand, error.answer, error.seen), told)


class Kinds(unittest.TestCase):
    def test_telling_deeds(self):
        self.assertEqual(telling_deeds(table=with_look(BY_HAND)), [2, 3])
        self.assertEqual(telling_deeds((((0, 5), (1, 0), (2, 9)), ((0, 1), (1, 0), (2, 1)), ((0, 0), (1, 1), (1, 2)))), [0])
        self.assertEqual(telling_deeds((((0, 3),), ((0, 3),))), [0, 1])
        self.assertEqual(telling_deeds(BY_HAND[:2]), [])
        self.assertEqual(telling_deeds(counting_table(30)), [2])
        self.assertIsNot(telling_deeds(BY_HAND), telling_deeds(BY_HAND))
        check_refused(self, BadTable, telling_deeds, [BY_HAND], 0, [*odd_values(), (), *bends(BY_HAND)])

    def test_kinds(self):
        for table in (ONE, counting_table(30), greatest_table(11), growing_table(4), cells_table(2, 5)):
            self.assertEqual(kind_of(table), ("served",))
        self.assertEqual(kind_of(table=BY_HAND[:2]), ("open", 0, 0))
        self.assertEqual(kind_of((((1, 0), (1, 1)),)), ("open", 0, 0))
        # The deeds 1 and 1 settle at state 0, but the first deed that tells is the deed 3.
        table = (((0, 0), (0, 1)), ((1, 0), (1, 1)), ((0, 0), (1, 0)), ((0, 8), (1, 7)), ((0, 0), (1, 1)))
        self.assertEqual(kind_of(table), ("settles", 0, 1, 1, 3))
        check_refused(self, BadTable, kind_of, [BY_HAND], 0, [*odd_values(), (), *bends(BY_HAND)])

    def test_a_table_that_is_neither(self):
        # The deeds 0 and 1 neither commute nor overwrite, yet views are blurred at all states.
        table = (((0, 0), (0, 0), (1, 0)), ((0, 0), (1, 0), (1, 0)), ((0, 0), (1, 1), (2, 2)))
        self.assertEqual(settling_places(table), [])
        self.assertEqual(kind_of(table), ("open", 0, 1))

    def test_kinds_drawn(self):
        kinds = {}
        for table in [*drawn_tables(45, 500, 4, 3, 2), LARGE, with_look(LARGE[:11])]:
            told = kind_of(table)
            deeds = range(len(table))
            places, tellers = settling_places(table), telling_deeds(table)
            clashes = [(one, other) for one in deeds for other in range(one, len(table))
                       if not commute(table, one, other) and not overwrites(table, one, other)
                       and not overwrites(table, other, one)]
            if not clashes:
                self.assertEqual(told, ("served",))
                self.assertIs(is_served(table), True)
                self.assertEqual(places, [])
            elif places and tellers:
                self.assertEqual(told, ("settles", *min(places), min(tellers)))
            else:
                self.assertEqual(told, ("open", *min(clashes)))
            kinds[told[0]] = kinds.get(told[0], 0) + 1
        self.assertGreater(min(kinds["served"], kinds["settles"], kinds["open"]), 20)


def chain(table, deed, many, last):
    """A plan of so many deeds, one behind another, whatever the answers."""
    answers = sorted({answer for _, answer in table[deed]})
    plan = last
    for _ in range(many):
        plan = ("do", deed, tuple((answer, plan) for answer in answers))
    return plan


def drawn_plan(draw, table, most, hand):
    if most == 0 or draw.random() < 0.3:
        return ("say", hand if draw.random() < 0.7 else 1 - hand)
    deed = draw.randrange(len(table))
    answers = sorted({answer for _, answer in table[deed]})
    return ("do", deed, tuple((answer, drawn_plan(draw, table, most - 1, hand)) for answer in answers))


def turned(table, state, left, hand):
    _, deed, branches = left[hand]
    state, told = table[deed][state]
    plans = list(left)
    plans[hand] = dict(branches)[told]
    return state, tuple(plans)


def all_weavings(table, state, left, weaving=()):
    """All weavings, each with the state and the plans that are left."""
    yield weaving, state, left
    for hand in (0, 1):
        if left[hand][0] == "do":
            yield from all_weavings(table, *turned(table, state, left, hand), weaving + (hand,))


def plain_is_wrong(weaving, left):
    if left[0][0] == "say" and left[1][0] == "say" and left[0][1] != left[1][1]:
        return True
    return any(left[hand] == ("say", 1 - hand) and 1 - hand not in weaving for hand in (0, 1))


def plain_said(table, state, left):
    return {plan[1] for _, _, plans in all_weavings(table, state, left) for plan in plans if plan[0] == "say"}


class Plans(unittest.TestCase):
    def test_is_plan(self):
        look = chain(BY_HAND, 2, 1, SAY0)
        for value in (SAY0, SAY1, look, ("do", 0, ((0, SAY0), (1, look))), chain(BY_HAND, 1, 5, SAY1)):
            self.assertIs(is_plan(BY_HAND, value), True, value)
            self.assertIs(is_plan(table=BY_HAND, value=value), True)
        for value in (*odd_values(), (), ("say",), ("say", 2), ("say", 0, 0), ("do", 0), ("do", 0, ()),
                      ("do", 3, ((0, SAY0), (1, SAY0))), ("do", 0, ((0, SAY0),)), ("do", 0, ((1, SAY0), (0, SAY0))),
                      ("do", 0, ((0, SAY0), (1, SAY0), (2, SAY0))), ("do", 0, ((0, SAY0), (0, SAY0))),
                      ("do", 0, ((0, SAY0), (1,))), ("do", 0, ((0, SAY0), (1, SAY0, 0))), ("tell", 0), SAY0 + look,
                      ("say", 0, ((0, SAY0), (1, SAY0))), 5, "say", ["say", 0]):
            self.assertIs(is_plan(BY_HAND, value), False, value)
        for plan in (look, ("do", 0, ((0, SAY1), (1, look)))):
            for value in bends(plan):
                self.assertIs(is_plan(BY_HAND, value), False, value)
        check_refused(self, BadTable, is_plan, [BY_HAND, SAY0], 0, [*odd_values(), (), *bends(BY_HAND)])

    def test_five_deeds_and_six(self):
        for table in (ONE, BY_HAND, counting_table(3)):
            for deed in range(len(table)):
                for many in range(6):
                    self.assertIs(is_plan(table, chain(table, deed, many, SAY0)), True)
                self.assertIs(is_plan(table, chain(table, deed, 6, SAY0)), False)
        uneven = ("do", 2, ((0, SAY0), (1, chain(BY_HAND, 0, 4, SAY1))))
        self.assertIs(is_plan(BY_HAND, uneven), True)
        uneven = ("do", 2, ((0, SAY0), (1, chain(BY_HAND, 0, 5, SAY1))))
        self.assertIs(is_plan(BY_HAND, uneven), False)

    def test_branches_are_of_just_the_answers(self):
        # All answers at any state, also at one that is never reached.
        table = (((0, 7), (0, 2), (2, 9), (0, 7)),)
        self.assertIs(is_plan(table, ("do", 0, ((2, SAY0), (7, SAY0), (9, SAY1)))), True)
        self.assertIs(is_plan(table, ("do", 0, ((2, SAY0), (7, SAY0)))), False)
        self.assertIs(is_plan(table, ("do", 0, ((7, SAY0), (2, SAY0), (9, SAY0)))), False)
        for size in (29, 30):
            table = counting_table(size)
            look = chain(table, 2, 2, SAY0)
            self.assertIs(is_plan(table, look), True)
            self.assertIs(is_plan(counting_table(30 if size == 29 else 29), look), False)

    def test_woven(self):
        plans = settling_plans(BY_HAND, 0, 1, 1, 2)
        self.assertEqual(woven(BY_HAND, 0, plans, ()), (0, plans))
        self.assertEqual(woven(table=BY_HAND, begin=0, plans=plans, weaving=(1, 0, 0, 1)), (1, (SAY1, SAY1)))
        self.assertEqual(woven(BY_HAND, 0, plans, (0, 0)), (1, (SAY0, plans[1])))
        self.assertEqual(woven(BY_HAND, 1, (SAY0, chain(BY_HAND, 0, 2, SAY1)), (1, 1)), (0, (SAY0, SAY1)))

    def test_woven_drawn(self):
        draw = random.Random(46)
        for table in drawn_tables(47, 60, 3, 3, 2):
            plans = (drawn_plan(draw, table, 3, 0), drawn_plan(draw, table, 3, 1))
            begin = draw.randrange(len(table[0]))
            for weaving, state, left in all_weavings(table, begin, plans):
                self.assertEqual(woven(table, begin, plans, weaving), (state, left))
                for hand in (0, 1):
                    if left[hand][0] == "say":
                        with self.assertRaises(BadWeaving):
                            woven(table, begin, plans, weaving + (hand,))

    def test_plan_errors(self):
        plans = settling_plans(BY_HAND, 0, 1, 1, 2)
        wrong = [*odd_values(), (), SAY0, (SAY0,), (SAY0, SAY0, SAY0), list(plans), (SAY0, ("say", 2)), 5,
                 (SAY0, chain(BY_HAND, 1, 6, SAY1)), (chain(BY_HAND, 1, 6, SAY1), SAY0), (SAY0, None), (None, SAY0),
                 *bends((SAY0, chain(BY_HAND, 1, 1, SAY1)))]
        for call, args in ((woven, [BY_HAND, 0, plans, ()]), (goes_wrong, [BY_HAND, 0, plans]),
                           (turning_point, [BY_HAND, 0, plans])):
            check_refused(self, BadTable, call, args, 0, [*odd_values(), (), *bends(BY_HAND)])
            check_refused(self, BadState, call, args, 1, NO_STATE)
            check_refused(self, BadPlans, call, args, 2, wrong)
            check_sequence(self, call, args, [(0, 0, BadTable), (1, 2, BadState), (2, 0, BadPlans)])
        check_refused(self, BadWeaving, woven, [BY_HAND, 0, plans, ()], 3,
                      [*odd_values(), [0, 1], (2,), (0, -1), (0, True), (False,), (None,), 0, (0, 0, 0), (1, 1, 1)])
        check_refused(self, BadWeaving, woven, [BY_HAND, 0, (SAY0, SAY1), ()], 3, [(0,), (1,)])
        check_sequence(self, woven, [BY_HAND, 0, plans, ()], [(2, (), BadPlans), (3, (2,), BadWeaving)])

    def test_plans_that_only_say(self):
        for plans in product((SAY0, SAY1), repeat=2):
            self.assertEqual(goes_wrong(BY_HAND, 0, plans), ())
        self.assertEqual(goes_wrong(BY_HAND, 1, (SAY1, chain(BY_HAND, 2, 1, SAY1))), ())
        # Hand 1 may say 0 behind a turn of hand 0 alone, and hand 0 has none: so it goes wrong at once.
        self.assertEqual(goes_wrong(BY_HAND, 1, (chain(BY_HAND, 2, 1, SAY0), SAY0)), ())

    def test_goes_wrong_drawn(self):
        draw = random.Random(48)
        right = 0
        for table in drawn_tables(49, 300, 3, 3, 2):
            plans = (drawn_plan(draw, table, 3, 0), drawn_plan(draw, table, 3, 1))
            begin = draw.randrange(len(table[0]))
            wrong = {weaving for weaving, _, left in all_weavings(table, begin, plans) if plain_is_wrong(weaving, left)}
            told = goes_wrong(table, begin, plans)
            self.assertTrue(told in wrong if wrong else told is None)
            self.assertEqual(told, goes_wrong(table=table, begin=begin, plans=plans))
            right += told is None
        for table in drawn_tables(50, 400, 4, 3, 2):
            kind = kind_of(table)
            if kind[0] != "settles":
                continue
            for begin in range(len(table[0])):
                plans = settling_plans(table, *kind[1:])
                left = [drop_one(draw, plan) if draw.random() < 0.3 else plan for plan in plans]
                plans = tuple(left)
                wrong = {weaving for weaving, _, left in all_weavings(table, begin, plans)
                         if plain_is_wrong(weaving, left)}
                told = goes_wrong(table, begin, plans)
                self.assertTrue(told in wrong if wrong else told is None)
                right += told is None
        self.assertGreater(right, 20)

    def test_the_longest_plans(self):
        table = counting_table(3)
        plans = (chain(table, 2, 5, SAY0), chain(table, 2, 5, SAY1))
        told = goes_wrong(table, 0, plans)
        self.assertEqual(woven(table, 0, plans, told), (0, (SAY0, SAY1)))
        self.assertEqual(sorted(told), [0] * 5 + [1] * 5)

    def test_over_served_tables_all_plans_go_wrong(self):
        draw = random.Random(51)
        for table in (ONE, counting_table(3), growing_table(2), cells_table(2, 2)):
            for _ in range(40):
                plans = (drawn_plan(draw, table, 4, 0), drawn_plan(draw, table, 4, 1))
                self.assertIsNotNone(goes_wrong(table, draw.randrange(len(table[0])), plans))


def drop_one(draw, plan):
    """The plan with one thing that is said exchanged."""
    if plan[0] == "say":
        return ("say", 1 - plan[1])
    branches = list(plan[2])
    k = draw.randrange(len(branches))
    branches[k] = (branches[k][0], drop_one(draw, branches[k][1]))
    return (*plan[:2], tuple(branches))


def led_by_looks(table, teller, many, plan):
    """The plan with so many looks ahead of it."""
    return chain(table, teller, many, plan)


class SettlingPlans(unittest.TestCase):
    def test_by_hand(self):
        self.assertEqual(settling_plans(BY_HAND, 0, 1, 1, 2), (
            ("do", 1, ((0, ("do", 2, ((0, SAY0), (1, SAY0)))), (1, ("do", 2, ((0, SAY0), (1, SAY1)))))),
            ("do", 1, ((0, ("do", 2, ((0, SAY1), (1, SAY1)))), (1, ("do", 2, ((0, SAY1), (1, SAY0))))))))
        self.assertEqual(turning_point(BY_HAND, 0, settling_plans(BY_HAND, 0, 1, 1, 2)), ((), 0, 1, 1))
        self.assertEqual(turning_point(table=BY_HAND, begin=0, plans=settling_plans(
            table=BY_HAND, state=0, one=1, other=1, teller=2)), ((), 0, 1, 1))

    def test_a_teller_with_answers_of_its_own(self):
        # Its answers fall along the states, so branches are not in the sequence of the states.
        table = (((1, 0), (1, 1)), ((0, 8), (1, 3)))
        self.assertEqual(settling_plans(table, 0, 0, 0, 1)[0],
                         ("do", 0, ((0, ("do", 1, ((3, SAY0), (8, SAY0)))), (1, ("do", 1, ((3, SAY1), (8, SAY0)))))))

    def test_drawn(self):
        many = 0
        for table in [*drawn_tables(52, 150, 4, 3, 2), with_look((tuple(((k + 1) % 30, k) for k in range(30)),)),
                      with_look((tuple(((k + 1) % 29, k) for k in range(29)),))]:
            tellers = telling_deeds(table)
            for (state, one, other), teller in product(settling_places(table)[:6], tellers):
                plans = settling_plans(table, state, one, other, teller)
                self.assertTrue(isinstance(plans, tuple) and all(is_plan(table, plan) for plan in plans))
                self.assertIsNone(goes_wrong(table, state, plans))
                self.check_plans(table, state, one, other, teller, plans)
                many += 1
        self.assertGreater(many, 40)

    def check_plans(self, table, state, one, other, teller, plans):
        for hand, plan in enumerate(plans):
            self.assertEqual(plan[:2], ("do", (one, other)[hand]))
            for answer, behind in plan[2]:
                self.assertEqual(behind[:2], ("do", teller))
                for told, last in behind[2]:
                    seen = [row[1] for row in table[teller]].index(told)
                    try:
                        choice = choice_of(table, state, one, other, hand, answer, seen)
                    except BadView:
                        choice = hand
                    self.assertEqual(last, ("say", choice))

    def test_errors(self):
        args = [BY_HAND, 0, 1, 1, 2]
        check_refused(self, BadTable, settling_plans, args, 0, [*odd_values(), (), *bends(BY_HAND)])
        check_refused(self, BadState, settling_plans, args, 1, NO_STATE)
        check_refused(self, BadDeed, settling_plans, args, 2, NO_DEED)
        check_refused(self, BadDeed, settling_plans, args, 3, NO_DEED)
        check_refused(self, BadTeller, settling_plans, args, 4, [*NO_DEED, 0, 1])
        check_refused(self, NotSettling, settling_plans, args, 2, [0, 2])
        check_sequence(self, settling_plans, args,
                       [(0, 0, BadTable), (1, 2, BadState), (2, 3, BadDeed), (3, 3, BadDeed)])
        check_sequence(self, settling_plans, args, [(4, 0, BadTeller), (2, 0, NotSettling)])
        with self.assertRaises(NotSettling) as caught:
            settling_plans(BY_HAND, 0, 0, 1, 2)
        error = caught.exception
        self.assertEqual((error.hand, error.answer, error.seen), (1, 0, 1))


class TurningPoints(unittest.TestCase):
    def check(self, table, begin, plans):
        weaving, state, one, other = turning_point(table, begin, plans)
        self.assertEqual(turning_point(table, begin, plans), (weaving, state, one, other))
        reached, left = woven(table, begin, plans, weaving)
        self.assertEqual((reached, left[0][:2], left[1][:2]), (state, ("do", one), ("do", other)))
        first = plain_said(table, *turned(table, state, left, 0))
        second = plain_said(table, *turned(table, state, left, 1))
        self.assertEqual((len(first), len(second), len(first | second)), (1, 1, 2))
        self.assertIs(settles_at(table, state, one, other), True)
        return weaving

    def test_drawn(self):
        draw = random.Random(53)
        weavings = []
        for table in drawn_tables(54, 200, 4, 3, 2):
            kind = kind_of(table)
            if kind[0] == "settles":
                _, state, one, other, teller = kind
                plans = settling_plans(table, state, one, other, teller)
                self.check(table, state, plans)
                looks = [draw.randint(0, 3) for _ in plans]
                plans = tuple(led_by_looks(table, teller, many, plan) for many, plan in zip(looks, plans))
                self.assertIsNone(goes_wrong(table, state, plans))
                weavings.append((sum(looks), len(self.check(table, state, plans))))
        self.assertGreater(len(weavings), 20)
        # Looks settle nothing: so a turning point lies behind all of them.
        self.assertTrue(all(many == length for many, length in weavings))

    def test_right_plans_found_by_search(self):
        draw = random.Random(55)
        right = 0
        for _ in range(30000):
            plans = (drawn_plan(draw, BY_HAND, 2, 0), drawn_plan(draw, BY_HAND, 2, 1))
            begin = draw.randrange(2)
            if plans[0][0] == "do" == plans[1][0] and goes_wrong(BY_HAND, begin, plans) is None:
                self.check(BY_HAND, begin, plans)
                right += 1
        self.assertGreater(right, 20)

    def test_wrong_plans_bear_what_goes_wrong_returns(self):
        draw = random.Random(56)
        for table in [*drawn_tables(57, 60, 3, 2, 2), BY_HAND]:
            plans = (drawn_plan(draw, table, 3, 0), drawn_plan(draw, table, 3, 1))
            wrong = goes_wrong(table, 0, plans)
            if wrong is not None:
                with self.assertRaises(WrongPlans) as caught:
                    turning_point(table, 0, plans)
                self.assertEqual(caught.exception.weaving, wrong)


if __name__ == "__main__":
    unittest.main()
