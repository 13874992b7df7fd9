"""Point 113: for each care rule a run that goes wrong without it, and runs with too few houses."""

import unittest

from seenatonce.drills import care_rules, drilled
from seenatonce.errors import BadFrame, BadRule
from seenatonce.rules import few_run, run_without
from tests.drills_helpers import PlainDrill, RULES
from tests.helpers import check_refused, check_sequence, odd_values

FEW = [(houses, lies) for lies in range(1, 13) for houses in range(lies + 1, min(3 * lies, 13) + 1)]


class Needed(unittest.TestCase):
    def check(self, told, rule):
        self.assertIs(told.__class__, tuple)
        frame, liars, run = told
        self.assertIs(run.__class__, tuple)
        self.assertLessEqual(len(run), 300)
        self.assertLessEqual(len(liars), frame[2])
        word, index, what = drilled(frame, liars, rule, run)
        self.assertEqual((word, index), ("wrong", len(run) - 1))
        # By the words of the document as well.
        plain = PlainDrill(frame, liars, rule)
        for act in run:
            self.assertEqual(plain.faults, [])
            plain.do(act)
        self.assertEqual(plain.faults[0], what)
        return what

    def test_each_rule_is_needed(self):
        kinds = set()
        for rule in RULES:
            with self.subTest(rule=rule):
                frame, liars, run = run_without(rule)
                kinds.add(self.check((frame, liars, run), rule)[0])
                if rule == "houses":
                    with self.assertRaises(BadFrame):
                        drilled(frame, liars, None, run)
                else:
                    told = drilled(frame, liars, None, run)
                    self.assertTrue(told is None or told[0] == "bad", told)
                self.assertEqual(run_without(rule=rule), (frame, liars, run))
        self.assertEqual(kinds, {"parted", "late", "back", "blind", "long", "twice"})

    def test_the_names(self):
        self.assertEqual(care_rules(), RULES)

    def test_few_houses(self):
        for houses, lies in FEW:
            with self.subTest(houses=houses, lies=lies):
                told = few_run(houses, lies)
                self.assertEqual(told[0], (2, houses, lies))
                self.check(told, "houses")
                self.assertEqual(few_run(houses=houses, lies=lies), told)
        self.assertEqual(FEW[0], (2, 1))
        self.assertEqual(FEW[-1], (13, 12))

    def test_no_rule(self):
        check_refused(self, BadRule, run_without, ["told"], 0, [*odd_values(), "Told", "told  on", 0, ("told",), ["told"], RULES])

    def test_no_few_houses(self):
        check_refused(self, BadFrame, few_run, [3, 1], 0, [*odd_values(), 0, 1, 4, 5, (3,), "3"])
        check_refused(self, BadFrame, few_run, [3, 1], 1, [*odd_values(), 0, 3, 4, (1,), "1"])
        for houses in range(-1, 16):
            for lies in range(-1, 15):
                if (houses, lies) not in FEW:
                    with self.assertRaises(BadFrame):
                        few_run(houses, lies)
        check_sequence(self, few_run, [3, 1], [(0, None, BadFrame), (1, None, BadFrame)])


if __name__ == "__main__":
    unittest.main()
