"""Points 111 to 113: drills, the care rules, and what goes wrong without one of them."""

import random
import unittest
from itertools import product

from seenatonce.drills import Drill, care_rules, drilled
from seenatonce.errors import BadAct, BadFrame, BadHand, BadLiars, BadRule, BadRun
from seenatonce.rules import Script
from tests.drills_helpers import PlainDrill, RULES, drawn_act, drawn_frame, rounds, shown
from tests.helpers import any_parted, bends, check_refused, check_sequence, odd_values


def acted(frame, liars, without, acts):
    drill = Drill(frame, liars, without)
    for act in acts:
        drill.act(act)
    return drill


class Example(unittest.TestCase):
    def test_by_hand(self):
        drill = acted((1, 1, 0), (), None, [("call", 0), ("reply", 0, 0, None), ("hear", 0)])
        self.assertEqual(drill.hand_at(0), (1, 2, "keep", (0,), None, 0))
        for act in (("reply", 0, 0, None), ("hear", 1), ("reply", 0, 0, None), ("hear", 2)):
            drill.act(act)
        self.assertEqual(drill.looks(), ((0, (0,), None),))
        self.assertEqual(drill.hand_at(0), (1, 4, "keep", (1,), (0,), 0))
        self.assertIs(drill.is_act(("call", 0)), False)
        with self.assertRaises(BadAct):
            drill.act(("call", 0))
        drill.act(("fall", 0))
        self.assertEqual(drill.hand_at(0), (2, 1, "keep", (1,), (0,), 0))

    def test_by_hand_without_told_on(self):
        acts = [("call", 0), *rounds(0, [0], 3, 0), ("fall", 0)]
        drill = acted((1, 1, 0), (), "told on", acts)
        self.assertEqual(drill.hand_at(0), (2, 0, None, None, (0,), 0))
        acts += [("call", 0), ("reply", 0, 0, None), ("hear", 3)]
        self.assertEqual(drilled((1, 1, 0), (), "told on", acts), ("wrong", 10, ("twice", 0, 1)))
        self.assertEqual(drilled((1, 1, 0), (), None, acts), ("bad", 8))

    def test_care_rules(self):
        self.assertEqual(care_rules(), RULES)

    def test_by_names(self):
        drill = Drill(frame=(1, 1, 0), liars=(), without="two")
        self.assertEqual((drill.frame, drill.liars, drill.without), ((1, 1, 0), (), "two"))
        self.assertIs(drill.is_act(act=("call", 0)), True)
        self.assertIsNone(drill.act(act=("call", 0)))
        self.assertEqual(drill.hand_at(hand=0), (1, 1, "ask", None, None, 0))
        self.assertIsNone(drilled(frame=(1, 1, 0), liars=(), without=None, run=(("call", 0),)))

    def test_at_first(self):
        drill = Drill((2, 4, 1), (2,), None)
        self.assertEqual(shown(drill), ((), ((), ()), ((0, 0), (0, 0), None, (0, 0)), (), ((1, 0, None, None, None, 0),) * 2, None))


class Acts(unittest.TestCase):
    def test_each_act_that_cannot_be_done(self):
        drill = Drill((2, 4, 1), (3,), None)
        for act in (("reply", 0, 0, None), ("hear", 0), ("drop", 3), ("reply", 0, 3, (0, 0))):
            self.check(drill, act, False)
        for act in (("call", 0), ("call", 1), ("fall", 0), ("trip", 1), ("drop", 0)):
            self.check(drill, act, True)
        drill.act(("call", 0))
        for act, told in ((("call", 0), False), (("call", 1), True), (("reply", 0, 0, None), True), (("reply", 1, 0, None), False), (("reply", 0, 0, (0, 0)), False),
                          (("reply", 0, 3, (0, 0)), True), (("reply", 0, 3, None), False), (("reply", 0, 3, (1, 0)), False), (("reply", 0, 3, (0, 0, 0)), False),
                          (("reply", 0, 3, [0, 0]), False), (("reply", 0, 4, None), False), (("reply", 2, 0, None), False), (("hear", 0), False), (("drop", 4), False),
                          (("call", 2), False), (("fall", 2), False), (("trip", 2), False)):
            self.check(drill, act, told)
        drill.act(("reply", 0, 0, None))
        self.check(drill, ("hear", 0), True)
        self.check(drill, ("hear", 1), False)

    def check(self, drill, act, told):
        before = shown(drill)
        self.assertIs(drill.is_act(act), told, act)
        if not told:
            with self.assertRaises(BadAct) as caught:
                drill.act(act)
            self.assertIs(caught.exception.__class__, BadAct)
            self.assertEqual(shown(drill), before)

    def test_other_values(self):
        drill = acted((2, 4, 1), (3,), None, [("call", 0), ("reply", 0, 3, (0, 0))])
        acts = [("call", 1), ("reply", 0, 0, None), ("reply", 0, 3, (0, 0)), ("hear", 0), ("fall", 1), ("trip", 0), ("drop", 1)]
        for value in (*odd_values(), (), ("call",), ("call", 1, 1), ("calls", 1), ("reply", 0, 0), ("reply", 0, 0, None, None), ("hear", 0, 0), (0, "call"), "call", [("call", 1)]):
            self.check(drill, value, False)
        for act in acts:
            self.check(drill, act, True)
            for bent in bends(act):
                self.check(drill, bent, False)

    def test_a_row_that_is_reached(self):
        # Hand 0 has sealed one sheet: a house that lies may tell it, and not two.
        drill = acted((2, 4, 1), (3,), None, [("call", 0), *rounds(0, [0, 1, 2], 3, 0), ("call", 1)])
        for row, told in (((0, 0), True), ((1, 0), True), ((2, 0), False), ((0, 1), False), ((1, 1), False), ((-1, 0), False), ((True, 0), False)):
            self.check(drill, ("reply", 1, 3, row), told)

    def test_letters(self):
        drill = acted((2, 4, 1), (3,), None, [("call", 0), *rounds(0, [0, 1, 2], 3, 0), ("call", 1), ("reply", 0, 1, None), ("reply", 1, 1, None), ("reply", 1, 3, (1, 0))])
        self.assertEqual(drill.letters()[0], (0, 1, 1, "ask", 0, (0, 0)))
        self.assertEqual(drill.letters()[9:], ((0, 1, 4, "keep", 1, (1, 0)), (1, 1, 1, "ask", 1, (1, 0)), (1, 1, 1, "ask", 3, (1, 0))))
        self.assertEqual(drill.rows(), ((0, 0), (1, 0), (0, 0), None))
        self.assertEqual(drill.sheets(), (((0, 0),), ()))

    def test_a_letter_heard_again_of_another_turn_of_another_life(self):
        drill = acted((1, 2, 0), (), None, [("call", 0), ("reply", 0, 0, None), ("hear", 0)])
        for _ in range(3):
            drill.act(("hear", 0))
        self.assertEqual(drill.hand_at(0)[:3], (1, 1, "ask"))
        drill.act(("reply", 0, 1, None))
        drill.act(("hear", 1))
        self.assertEqual(drill.hand_at(0)[:3], (1, 2, "keep"))
        for number in (0, 1, 0):
            drill.act(("hear", number))
        self.assertEqual(drill.hand_at(0)[:3], (1, 2, "keep"))
        drill.act(("fall", 0))
        drill.act(("call", 0))
        for number in (0, 1):
            drill.act(("hear", number))
        self.assertEqual(drill.hand_at(0), (2, 1, "ask", None, None, 0))
        # A letter for a hand without an open round changes nothing either.
        drill.act(("fall", 0))
        before = shown(drill)
        drill.act(("hear", 0))
        self.assertEqual(shown(drill), before)

    def test_a_trip(self):
        acts = [("trip", 0), ("call", 0), *rounds(0, [0], 3, 0)]
        drill = acted((1, 1, 0), (), None, acts)
        self.assertEqual(drill.hand_at(0), (2, 0, None, None, (0,), 0))
        self.assertEqual((drill.looks(), drill.sheets()), (((0, (0,), None),), ((),)))
        for act in [("call", 0), *rounds(0, [0], 1, 3)]:
            drill.act(act)
        self.assertEqual((drill.hand_at(0)[:3], drill.sheets()), ((2, 2, "keep"), (((0,),),)))
        # A fall ahead of the look takes the trip back.
        drill = acted((1, 1, 0), (), None, [("trip", 0), ("trip", 0), ("call", 0), ("fall", 0), ("call", 0), *rounds(0, [0], 3, 0)])
        self.assertEqual((drill.hand_at(0), drill.sheets()), ((2, 4, "keep", (1,), (0,), 0), (((0,),),)))
        # A trip amid telling waits for the next look.
        drill = acted((1, 1, 0), (), None, [("call", 0), *rounds(0, [0], 3, 0), ("trip", 0), *rounds(0, [0], 1, 3), ("call", 0), *rounds(0, [0], 1, 4)])
        self.assertEqual((drill.hand_at(0), drill.sheets()), ((2, 0, None, None, (1,), 1), (((0,),),)))

    def test_a_fall_amid_telling_a_sheet_on(self):
        drill = acted((1, 1, 0), (), None, [("call", 0), *rounds(0, [0], 3, 0), ("fall", 0), ("fall", 0)])
        self.assertEqual(drill.hand_at(0), (3, 1, "keep", (1,), (0,), 0))
        for act in rounds(0, [0], 1, 3):
            drill.act(act)
        self.assertEqual(drill.hand_at(0), (3, 1, None, None, (1,), 1))
        drill.act(("fall", 0))
        self.assertEqual(drill.hand_at(0), (4, 0, None, None, (1,), 1))

    def test_a_lent_look(self):
        # Between the collects of hand 1 hand 0 ends two calls.
        acts = [("call", 1), *rounds(1, [0], 2, 0), ("call", 0), *rounds(0, [0], 4, 2), ("call", 0), *rounds(0, [0], 2, 6), *rounds(1, [0], 1, 8)]
        drill = acted((2, 1, 0), (), None, acts)
        self.assertEqual(drill.looks()[-1], (1, (1, 0), 0))
        self.assertEqual(drill.hand_at(1), (1, 4, "keep", (1, 1), (1, 0), 0))

    def test_drops(self):
        for without, row in ((None, (1, 0)), ("holds", (0, 0))):
            drill = acted((2, 1, 0), (), without, [("call", 0), *rounds(0, [0], 4, 0), ("drop", 0)])
            self.assertEqual(drill.rows(), (row,))

    def test_what_is_returned_is_of_tuples(self):
        drill = acted((2, 1, 0), (), None, [("call", 0), *rounds(0, [0], 4, 0)])
        for told in (drill.looks(), drill.sheets(), drill.rows(), drill.letters(), drill.hand_at(0), care_rules()):
            self.assertIs(told.__class__, tuple)
        self.assertTrue(all(told.__class__ is tuple for told in (*drill.looks(), *drill.sheets(), *drill.letters())))

    def test_no_hand(self):
        check_refused(self, BadHand, Drill((2, 1, 0), (), None).hand_at, [0], 0, [*odd_values(), 2, -1, (), "0", (0,)])


class Drawn(unittest.TestCase):
    def test_by_the_words_with_and_without_each_rule(self):
        draw = random.Random(1110)
        ended = {rule: 0 for rule in (None, *RULES)}
        for k in range(400):
            rule = (None, *RULES)[k % 15]
            frame, liars = drawn_frame(draw)
            if rule == "houses":
                frame, liars = ((2, 3, 1), draw.choice(((), (0,), (2,))))
            drill, plain = Drill(frame, liars, rule), PlainDrill(frame, liars, rule)
            for _ in range(150):
                act = drawn_act(draw, drill)
                drill.act(act)
                plain.do(act)
                self.assertEqual(shown(drill), plain.shows(), (frame, liars, rule))
                if drill.wrong() is not None:
                    break
            ended[rule] += sum(drill.hand_at(hand)[5] for hand in range(frame[0]))
        self.assertGreater(min(ended.values()), 5)

    def test_long_runs_with_all_rules(self):
        draw = random.Random(1120)
        many = lent = 0
        for _ in range(40):
            frame, liars = drawn_frame(draw)
            drill = Drill(frame, liars, None)
            ends, begun = {}, {}
            for moment in range(1, 900):
                act = drawn_act(draw, drill)
                looks = len(drill.looks())
                before = [drill.hand_at(hand)[5] for hand in range(frame[0])]
                drill.act(act)
                if act[0] == "call":
                    begun[act[1]] = moment
                for hand, row, lender in drill.looks()[looks:]:
                    many, lent = many + 1, lent + (lender is not None)
                    for (other, number), end in ends.items():
                        self.assertTrue(end > begun[hand] or row[other] >= number)
                for hand in range(frame[0]):
                    if drill.hand_at(hand)[5] > before[hand]:
                        ends[(hand, drill.hand_at(hand)[5])] = moment
                self.assertIsNone(drill.wrong())
            self.assertFalse(any_parted([row for _, row, _ in drill.looks()]))
            for hand, sheets in enumerate(drill.sheets()):
                self.assertTrue(drill.hand_at(hand)[5] <= len(sheets) <= drill.hand_at(hand)[5] + 1)
                self.assertEqual([row[hand] for row in sheets], list(range(len(sheets))))
        self.assertGreater(many, 400)
        self.assertGreater(lent, 5)

    def test_drilled_is_the_run_in_a_new_drill(self):
        draw = random.Random(1121)
        seen = {None: 0, "bad": 0, "wrong": 0}
        for _ in range(250):
            frame, liars = drawn_frame(draw)
            rule = draw.choice((None, *RULES))
            drill, run, wanted = Drill(frame, liars, rule), [], None
            for index in range(draw.randint(0, 200)):
                act = drawn_act(draw, drill)
                if draw.random() < 0.002:
                    run.append(("call", 9))
                    wanted = ("bad", index)
                    break
                run.append(act)
                drill.act(act)
                if drill.wrong() is not None:
                    wanted = ("wrong", index, drill.wrong())
                    break
            # What comes behind that is not looked at.
            rest = [] if wanted is None else [None, ("call", 0)][:draw.randint(0, 2)]
            self.assertEqual(drilled(frame, liars, rule, run + rest), wanted)
            seen[wanted and wanted[0]] += 1
        self.assertGreater(min(seen.values()), 10)


class Wrong(unittest.TestCase):
    """Each kind of what is wrong, at the first act by which it comes about, and amid one act in its sequence."""

    def test_it_stays(self):
        acts = [("call", 0), *rounds(0, [0], 4, 0), ("drop", 0), ("call", 0), *rounds(0, [0], 1, 4)]
        drill = acted((1, 1, 0), (), "holds", acts)
        self.assertEqual(drill.wrong(), ("back", 0))
        self.assertEqual(drilled((1, 1, 0), (), "holds", acts), ("wrong", len(acts) - 1, ("back", 0)))
        self.assertIsNone(drilled((1, 1, 0), (), "holds", acts[:-1]))

    def test_late(self):
        acts = [("call", 0), *rounds(0, [0], 4, 0), ("drop", 0), ("call", 1), *rounds(1, [0], 3, 4)]
        self.assertEqual(drilled((2, 1, 0), (), "holds", acts), ("wrong", len(acts) - 1, ("late", 1, 0, 1)))

    def test_an_end_amid_the_call_is_not_late(self):
        # With "told" left out the first collect is the look: it lacks what ended behind the begin of its call.
        acts = [("call", 1), ("reply", 1, 0, None), ("call", 0), *rounds(0, [0], 2, 1), ("hear", 0)]
        drill = acted((2, 1, 0), (), "told", acts)
        self.assertEqual((drill.looks(), drill.hand_at(0)[5], drill.wrong()), (((0, (0, 0), None), (1, (0, 0), None)), 1, None))
        acts = [("call", 0), *rounds(0, [0], 2, 0), ("drop", 0), ("call", 1), *rounds(1, [0], 1, 2)]
        self.assertIsNone(drilled((2, 1, 0), (), "told", acts))

    def test_the_least_sheet_is_told(self):
        # The house loses one sheet of hand 2 and two of hand 3.
        script = Script()
        script.call(3, [0], 4)
        script.call(3, [0], 2)
        script.call(2, [0], 4)
        script.add("drop", 0)
        script.call(0, [0], 3)
        self.check((4, 1, 0), (), "holds", script, ("late", 3, 2, 1))

    def test_the_first_of_two_amid_one_act(self):
        # With one letter too few: hands 1 and 2 call ahead of all ends, hand 3 behind them.
        script = Script()
        script.add("call", 1)
        script.add("call", 2)
        script.call(0, [0], 4)
        script.rounds(1, [1], 4)
        script.rounds(2, [0], 3)
        script.call(3, [1], 3)
        self.check((4, 2, 0), (), "enough", script, ("parted", 2, 3))
        plain = PlainDrill((4, 2, 0), (), "enough")
        for act in script.run():
            plain.do(act)
        self.assertEqual(plain.faults, [("parted", 2, 3), ("late", 3, 0, 1)])

    def test_the_least_look_from_which_one_is_parted(self):
        script = Script()
        for hand in (1, 2, 4, 3):
            script.add("call", hand)
        script.call(0, [0], 4)
        script.rounds(1, [1], 4)
        script.rounds(2, [0], 4)
        script.rounds(4, [0], 3)
        script.rounds(3, [1], 3)
        self.check((5, 2, 0), (), "enough", script, ("parted", 2, 4))

    def test_blind_looks_at_letters_of_asking_alone(self):
        # House 0 keeps the sheet of hand 0 when it keeps what hand 2 tells back; no letter of asking tells it to hand 2.
        script = Script()
        script.call(2, [0, 1, 2], 1)
        script.call(0, [0, 1, 2], 3)
        script.sent(0, 0, None)
        script.round(2, [0, 1, 2])
        early = [script.sent(2, 1, None), script.sent(2, 2, None)]
        script.call(1, [0, 1, 2], 4)
        script.call(1, [0, 1, 2], 1)
        for number in early + [script.sent(2, 3, (0, 2, 0))]:
            script.add("hear", number)
        self.check((3, 4, 1), (3,), "closed", script, ("blind", 3))
        self.assertEqual(acted((3, 4, 1), (3,), "closed", script.run()).looks()[3], (2, (1, 1, 0), 1))

    def test_the_least_hand_lends(self):
        script = Script()
        script.call(2, [0], 2)
        for hand in (1, 0):
            script.call(hand, [0], 4)
            script.call(hand, [0], 2)
        script.round(2, [0])
        drill = acted((3, 1, 0), (), None, script.run())
        self.assertEqual(drill.rows(), ((2, 2, 0),))
        self.assertEqual(drill.looks()[-1], (2, (1, 2, 0), 0))

    def check(self, frame, liars, rule, script, what):
        """The run goes wrong so at its last act without the rule, and not with all rules."""
        run = script.run()
        self.assertEqual(drilled(frame, liars, rule, run), ("wrong", len(run) - 1, what))
        self.assertTrue(drilled(frame, liars, None, run) is None or drilled(frame, liars, None, run)[0] == "bad")

    def test_long(self):
        # Each collect of hand 1 finds more, and nobody lends: 2 hands may need three.
        acts = [("call", 1), *rounds(1, [0], 2, 0), ("call", 0), *rounds(0, [0], 4, 2), *rounds(1, [0], 2, 6), ("call", 0), *rounds(0, [0], 2, 8), *rounds(1, [0], 1, 10)]
        self.assertIsNone(drilled((2, 1, 0), (), "lent", acts))
        acts += [*rounds(1, [0], 1, 11), ("call", 0), *rounds(0, [0], 2, 12), *rounds(1, [0], 1, 14)]
        self.assertEqual(drilled((2, 1, 0), (), "lent", acts), ("wrong", len(acts) - 1, ("long", 1)))


class Refused(unittest.TestCase):
    def test_frames(self):
        for hands, houses, lies in product((0, 1, 6, 7), (0, 1, 3, 4, 6, 7, 12, 13, 14), (-1, 0, 1, 2, 4, 12, 13)):
            is_frame = 1 <= hands <= 6 and 1 <= houses <= 13 and 0 <= lies < houses
            for without in (None, "told", "houses"):
                fits = is_frame and (houses > 3 * lies or without == "houses")
                if fits:
                    self.assertEqual(Drill((hands, houses, lies), (), without).rows(), ((0,) * hands,) * houses)
                    self.assertIsNone(drilled((hands, houses, lies), (), without, []))
                else:
                    for call, rest in ((Drill, []), (drilled, [[]])):
                        with self.assertRaises(BadFrame):
                            call((hands, houses, lies), (), without, *rest)

    def test_errors(self):
        for call, args in ((Drill, [(2, 7, 2), (1, 3), None]), (drilled, [(2, 7, 2), (1, 3), None, []])):
            check_refused(self, BadFrame, call, args, 0, [*odd_values(), (2, 6, 2), (2, 7), (2, 7, 2, 0), [2, 7, 2], *bends((2, 7, 2))])
            check_refused(self, BadLiars, call, args, 1, [*[value for value in odd_values() if value != ()], [1, 3], (3, 1), (1, 1), (1, 2, 3), (7,), (-1,), (1, 7), *bends((1, 3))])
            check_refused(self, BadRule, call, args, 2, [*[value for value in odd_values() if value is not None], 0, "Told", "told on ", ("told",), "no"])
            check_sequence(self, call, args, [(0, None, BadFrame), (1, None, BadLiars), (2, "no", BadRule)])
            check_sequence(self, call, args, [(0, (2, 6, 2), BadFrame), (1, [], BadLiars), (2, [], BadRule)])
            for liars in ((), (0,), (6,), (0, 6)):
                call(args[0], liars, *args[2:])

    def test_runs(self):
        args = [(1, 1, 0), (), None, []]
        check_refused(self, BadRun, drilled, args, 3, [*[value for value in odd_values() if not isinstance(value, (list, tuple))], {}, 5, "call", [("drop", 0)] * 301,
                                                       (("drop", 0),) * 301, [None] * 301])
        check_sequence(self, drilled, args, [(0, None, BadFrame), (1, None, BadLiars), (2, "no", BadRule), (3, None, BadRun)])
        for run, told in (([], None), ((), None), ([("drop", 0)] * 300, None), ([None], ("bad", 0)), ([("call", 0), ("call", 0)], ("bad", 1)), ((("call", 0), [("call", 0)]), ("bad", 1)),
                          ([("drop", 0)] * 299 + [True], ("bad", 299))):
            self.assertEqual(drilled((1, 1, 0), (), None, run), told)

    def test_what_is_passed_stays(self):
        run = [("call", 0), ("reply", 0, 0, None), ("hear", 0), ("bad",)]
        drilled((1, 1, 0), (), None, run)
        self.assertEqual(run, [("call", 0), ("reply", 0, 0, None), ("hear", 0), ("bad",)])


if __name__ == "__main__":
    unittest.main()
