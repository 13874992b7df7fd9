"""Point 30: names, contents and seals."""

import random
import unittest

from seenatonce.errors import BadContent, BadName, BadWho, SeenError
from seenatonce.trust import Trust
from tests.helpers import GREATEST, bends, check_refused, check_sequence, deep, odd_values

NO_NAME = [*odd_values(), (), ("name",), ("name", 99), ("name", -1), ("name", 10 ** 18), ("name", True), ("name", "0"),
           ("name", 0, 0), ("Name", 0), ["name", 0], (0, "name"), 5, 0]
NO_WHO = [*odd_values(), (), ("hand",), ("hand", -1), ("hand", True), ("hand", 10 ** 18), ("hand", 0, 0), ("book", 0),
          ["hand", 0], (0, "hand"), ("hand", None), 5, (["hand"], 0)]
CONTENTS = [0, 1, -1, GREATEST, -GREATEST, "", "1", "name", "two\nlines", "it's", 'a "quote"', None, (), (0,), ("0",),
            (None,), ((),), ((), ()), ("name",), ("name", -1), ("name", "0"), ("name", 3, 4), ("name", None),
            ("hand", 7), deep(60), ("saying", 0, 1, (0, 0), (), ()), (1, (2, (3,))), ((1, 2), 3), "((1, 2), 3)", "None"]
NO_CONTENT = [True, False, 10 ** 18, -10 ** 18, [], {}, {"a": 1}, [1], (1, [2]), ((True,),), (None, False), Trust(),
              SeenError("x"), (1, Trust()), ((1, (2, {})),), ("name", 99), ("name", 10 ** 18), ("name", True),
              (1, ("name", 99)), deep(60, list), (("name", GREATEST),)]


class Names(unittest.TestCase):
    def test_contents_get_names_in_sequence(self):
        trust = Trust()
        self.assertEqual(trust.size(), 0)
        for k, content in enumerate(CONTENTS):
            self.assertEqual(trust.name(content), ("name", k), content)
            self.assertEqual(trust.size(), k + 1)
        for k, content in enumerate(CONTENTS):
            self.assertEqual(trust.name(content=content), ("name", k))
            self.assertEqual(trust.content(name=("name", k)), content)
            self.assertIs(trust.is_name(value=("name", k)), True)
        self.assertEqual(trust.size(), len(CONTENTS))

    def test_names_within_contents(self):
        trust = Trust()
        first = trust.name("a")
        self.assertEqual(first, ("name", 0))
        self.assertEqual(trust.name(first), ("name", 1))
        self.assertEqual(trust.name((first, ("name", 1))), ("name", 2))
        self.assertEqual(trust.name(("name", 0)), ("name", 1))
        self.assertEqual(trust.content(("name", 2)), (("name", 0), ("name", 1)))

    def test_a_name_not_given_yet(self):
        trust = Trust()
        trust.name("a")
        for content in (("name", 1), (("name", 1),), (0, (("name", 0), ("name", 1)))):
            for _ in range(2):
                with self.assertRaises(BadContent):
                    trust.name(content)
        self.assertEqual(trust.size(), 1)
        trust.name("b")
        self.assertEqual(trust.name(("name", 1)), ("name", 2))
        self.assertEqual(trust.name((("name", 1),)), ("name", 3))

    def test_no_content_changes_nothing(self):
        trust = Trust()
        trust.name(("a", 1))
        for content in NO_CONTENT:
            with self.subTest(content=repr(content)[:60]):
                with self.assertRaises(BadContent):
                    trust.name(content)
                self.assertEqual(trust.size(), 1)
                self.assertIs(trust.is_name(("name", 1)), False)
        self.assertEqual(trust.name("b"), ("name", 1))

    def test_true_is_never_taken_for_one(self):
        trust = Trust()
        trust.name((1, (0, 1)))
        check_refused(self, BadContent, trust.name, [0], 0, [(True, (0, 1)), (1, (False, 1)), (1, (0, True))])

    def test_names_in_a_content_are_less_than_its_own(self):
        draw = random.Random(60)
        trust = Trust()
        for _ in range(200):
            given = [("name", draw.randrange(trust.size())) for _ in range(draw.randint(0, 3)) if trust.size()]
            content = ("c", draw.randint(0, 3), tuple(given))
            name = trust.name(content)
            self.assertTrue(all(less < name for less in given))

    def test_books_are_apart(self):
        one, other = Trust(), Trust()
        self.assertEqual(one.name("a"), other.name("b"))
        self.assertEqual(one.content(("name", 0)), "a")
        self.assertEqual((one.size(), other.size()), (1, 1))
        self.assertNotEqual(one, other)
        for value in (None, 0, "", (), [], {}):
            self.assertNotEqual(one, value)

    def test_is_name(self):
        trust = Trust()
        self.assertIs(trust.is_name(("name", 0)), False)
        trust.name("a")
        self.assertIs(trust.is_name(("name", 0)), True)
        for value in NO_NAME:
            self.assertIs(trust.is_name(value), False, value)
        for value in bends(("name", 0)):
            self.assertIs(trust.is_name(value), False, value)

    def test_content_of_no_name(self):
        trust = Trust()
        trust.name("a")
        trust.name("b")
        check_refused(self, BadName, trust.content, [("name", 0)], 0, [*NO_NAME, ("name", 2), *bends(("name", 1))])
        self.assertEqual(trust.size(), 2)


class Seals(unittest.TestCase):
    def test_who_sealed_what(self):
        trust = Trust()
        names = [trust.name(word) for word in ("a", "b")]
        whos = [("hand", 0), ("hand", 1), ("house", 0), ("house", 1), ("hand", GREATEST)]
        sealed = set()
        for who, name in ((whos[0], names[1]), (whos[2], names[0]), (whos[4], names[0]), (whos[0], names[1])):
            self.assertIsNone(trust.seal(who=who, name=name))
            sealed.add((who, name))
            for one in whos:
                for other in names:
                    self.assertIs(trust.sealed(who=one, name=other), (one, other) in sealed)
        self.assertEqual(trust.size(), 2)

    def test_a_name_may_be_sealed_by_several(self):
        trust = Trust()
        name = trust.name("a")
        trust.seal(("hand", 0), name)
        trust.seal(("house", 0), name)
        self.assertIs(trust.sealed(("hand", 0), name) and trust.sealed(("house", 0), name), True)

    def test_errors_change_nothing(self):
        trust = Trust()
        name = trust.name("a")
        args = [("hand", 1), name]
        for call in (trust.seal, trust.sealed):
            check_refused(self, BadWho, call, args, 0, [*NO_WHO, *bends(("house", 1))])
            check_refused(self, BadName, call, args, 1, [*NO_NAME, *bends(name)])
            check_sequence(self, call, args, [(0, ("book", 0), BadWho), (1, ("name", 1), BadName)])
        self.assertEqual(trust.size(), 1)
        self.assertIs(trust.sealed(("hand", 1), name), False)
        trust.name("b")
        self.assertIs(trust.sealed(("hand", 1), ("name", 1)), False)


if __name__ == "__main__":
    unittest.main()
