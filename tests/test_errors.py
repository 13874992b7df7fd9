"""Points 3 and 5: the error classes, all directly below SeenError, and their attributes."""

import unittest

from seenatonce import errors
from seenatonce.errors import SeenError

PLAIN = """BadAct BadCall BadCell BadCells BadClause BadContent BadCount BadDeed BadDeeds BadDisk BadEdge BadFrame BadFuse
BadHand BadHeard BadHistory BadHouse BadLetter BadLiars BadLine BadLook BadLot BadMany BadMoment BadName BadNumber BadOrder
BadPair BadPicks BadPlaces BadPlan BadPlans BadRow BadRows BadRule BadRun BadSaying BadScene BadSequence BadSize BadSpan
BadState BadStock BadStore BadTable BadTeller BadTrust BadView BadWeaving BadWho Busy Fell Gone Lied NotGone
NotPlain""".split()
BEARING = {"BadText": ("line",), "MoreLie": ("houses",), "NotServed": ("one", "other"),
           "NotSettling": ("hand", "answer", "seen"), "Parted": ("one", "other"), "StillHeld": ("holder",),
           "TooLarge": ("states", "deeds"), "TooMany": ("most",), "WrongPlans": ("weaving",)}


class Errors(unittest.TestCase):
    def test_seen_error_is_a_value_error(self):
        self.assertEqual(SeenError.__bases__, (ValueError,))

    def test_all_are_there_and_no_others(self):
        told = {name for name, value in vars(errors).items() if isinstance(value, type)}
        self.assertEqual(told, {"SeenError", *PLAIN, *BEARING})

    def test_each_stands_directly_below(self):
        for name in (*PLAIN, *BEARING):
            self.assertEqual(getattr(errors, name).__bases__, (SeenError,), name)
            self.assertEqual(getattr(errors, name).__module__, "seenatonce.errors")

    def test_plain_ones_are_made_of_any_text(self):
        for name in PLAIN:
            for text in ("", "some text", "two\nlines"):
                error = getattr(errors, name)(text)
                self.assertEqual(str(error), text)

    def test_attributes_by_position_and_by_name(self):
        values = [3, (1, 2), None]
        for name, attributes in BEARING.items():
            told = dict(zip(attributes, values))
            for error in (getattr(errors, name)(*told.values()), getattr(errors, name)(**told)):
                for attribute, value in told.items():
                    self.assertEqual(getattr(error, attribute), value)
                self.assertTrue(isinstance(str(error), str))

    def test_attributes_are_wanted(self):
        for name, attributes in BEARING.items():
            with self.assertRaises(TypeError):
                getattr(errors, name)()
            with self.assertRaises(TypeError):
                getattr(errors, name)(*range(len(attributes) + 1))

    def test_errors_are_equal_to_no_other_values(self):
        for value in (None, 0, "", (), errors.BadAct("x"), "x"):
            self.assertNotEqual(errors.BadAct("x"), value)
            self.assertNotEqual(errors.TooMany(3), value)


if __name__ == "__main__":
    unittest.main()
