"""Point 123, with points 10 and 80: texts of tables and histories, read back, and the line of what is no such text."""

import random
import unittest

from seenatonce.errors import BadHistory, BadTable, BadText
from seenatonce.histories import is_history
from seenatonce.tables import counting_table, greatest_table, is_table
from seenatonce.texts import history_text, read_history, read_table, table_text
from tests.helpers import GREATEST, check_refused, check_sequence, drawn_table, drawn_tables, odd_values
from tests.test_histories import HISTORY, NO_HISTORY, TABLE, chain, drawn_history
from tests.test_lots import NO_TABLE

# The table of the example of [81].
ADDS = (((1, 0), (2, 0), (2, 0)), ((0, 0), (1, 1), (2, 2)))
TEXT = "table 2 3\ndeed 1 0 2 0 2 0\ndeed 0 0 1 1 2 2\n"
CALLS = [(0, 1, 8, 0, 0), (5, 2, None, 2, None), (0, 10, GREATEST, 1, GREATEST)]
CALLS_TEXT = f"history 3\ncall 0 1 8 0 0\ncall 5 2 - 2 -\ncall 0 10 {GREATEST} 1 {GREATEST}\n"
NO_STRINGS = [value for value in odd_values() if not isinstance(value, str)] + [0, (), b"table 1 1\ndeed 0 0\n", ("table 1 1\n",), str]


class Bad(unittest.TestCase):
    def check_line(self, call, args, line):
        with self.assertRaises(BadText, msg=args) as caught:
            call(*args)
        self.assertIs(caught.exception.__class__, BadText)
        self.assertEqual(caught.exception.line, line, args)


def table_by_words(text):
    """("table", table) or ("line", line), by the words of [123]."""
    if not isinstance(text, str):
        return ("line", 0)
    lines = text.split("\n")
    whole, open_line = lines[:-1], lines[-1]
    if not whole:
        return ("line", 1)
    words = whole[0].split(" ")
    fits = len(words) == 3 and words[0] == "table" and words[1] in map(str, range(1, 13)) and words[2] in map(str, range(1, 31))
    if not fits:
        return ("line", 1)
    many, states = int(words[1]), int(words[2])
    deeds = []
    for k in range(1, many + 1):
        words = whole[k].split(" ") if k < len(whole) else []
        if len(words) != 2 * states + 1 or words[0] != "deed" or not all(is_figures(word) for word in words[1:]):
            return ("line", k + 1)
        numbers = [int(word) for word in words[1:]]
        deeds.append(tuple((numbers[2 * j], numbers[2 * j + 1]) for j in range(states)))
        if any(behind >= states for behind, _ in deeds[-1]):
            return ("line", k + 1)
    if len(whole) > many + 1 or open_line:
        return ("line", many + 2)
    return ("table", tuple(deeds))


def is_figures(word):
    return word.isascii() and word.isdigit() and len(word) <= 18 and str(int(word)) == word


def history_by_words(table, text):
    if not isinstance(text, str):
        return ("line", 0)
    lines = text.split("\n")
    whole, open_line = lines[:-1], lines[-1]
    if not whole or whole[0] not in [f"history {many}" for many in range(61)]:
        return ("line", 1)
    many, calls = int(whole[0].split(" ")[1]), []
    for k in range(1, many + 1):
        words = whole[k].split(" ") if k < len(whole) else []
        if len(words) != 6 or words[0] != "call" or not all(word == "-" or is_figures(word) for word in words[1:]):
            return ("line", k + 1)
        calls.append(tuple(None if word == "-" else int(word) for word in words[1:]))
        if not is_history(table, calls):
            return ("line", k + 1)
    if len(whole) > many + 1 or open_line:
        return ("line", many + 2)
    return ("history", calls)


def spoilt(draw, text):
    """A text with one or two signs gone, doubled, exchanged or put in, or with a line gone or more."""
    for _ in range(draw.randint(1, 2)):
        k = draw.randrange(len(text) + 1)
        kind = draw.randrange(5)
        if kind == 0:
            text = text[:k] + text[k + 1:]
        elif kind == 1:
            text = text[:k] + draw.choice("0123456789 -+\nxd") + text[k:]
        elif kind == 2:
            text = text[:k] + draw.choice("0123456789 -\n") + text[k + 1:]
        elif kind == 3:
            lines = text.split("\n")
            j = draw.randrange(len(lines))
            text = "\n".join(lines[:j] + lines[j + 1:])
        else:
            lines = text.split("\n")
            j = draw.randrange(len(lines))
            text = "\n".join(lines[:j] + [lines[j]] * 2 + lines[j + 1:])
    return text


class Tables(Bad):
    def test_the_example(self):
        self.assertEqual(table_text(ADDS), TEXT)
        self.assertEqual(table_text(table=ADDS), TEXT)
        self.assertEqual(read_table(text=TEXT), ADDS)
        self.check_line(read_table, [TEXT.replace("deed 1 0 2 0 2 0", "deed 1 0 2 0 3 0")], 2)
        self.check_line(read_table, ["table 2 3\ndeed 1 0 2 0 2 0\n"], 3)
        self.check_line(read_table, [TEXT[:-1]], 3)

    def test_small_and_large(self):
        self.assertEqual(table_text((((0, 0),),)), "table 1 1\ndeed 0 0\n")
        table = drawn_table(random.Random(1), 30, 12, GREATEST + 1)
        self.assertEqual(read_table(table_text(table)), table)
        self.assertEqual(read_table(f"table 1 1\ndeed 0 {GREATEST}\n"), (((0, GREATEST),),))
        self.assertEqual(table_text((((0, GREATEST),),)), f"table 1 1\ndeed 0 {GREATEST}\n")

    def test_drawn(self):
        tables = drawn_tables(1230, 80) + [counting_table(30), greatest_table(11)]
        texts = [table_text(table) for table in tables]
        for table, text in zip(tables, texts):
            told = read_table(text)
            self.assertEqual(told, table)
            self.assertIs(is_table(told), True)
            self.assertEqual(text.count("\n"), len(table) + 1)
        self.assertEqual(len(set(texts)), len(set(tables)))

    def test_lines(self):
        for text, line in (("", 1), ("\n", 1), ("table 2 3", 1), ("table 2 3\n", 2), (TEXT + "\n", 4), (TEXT + "deed 0 0 1 1 2 2\n", 4), (TEXT + "x", 4), (TEXT + " ", 4), (" " + TEXT, 1),
                           ("\n" + TEXT, 1), (TEXT[:-1] + " \n", 3), (TEXT.replace("\n", "\n\n", 1), 2), ("Table" + TEXT[5:], 1), (TEXT.replace("table 2", "table  2"), 1),
                           (TEXT.replace("table 2", "table 02"), 1), (TEXT.replace("table 2", "table +2"), 1), (TEXT.replace("table 2", "table -2"), 1), (TEXT.replace("table 2", "table -"), 1),
                           (TEXT.replace("table 2", "table 3"), 4), (TEXT.replace("table 2", "table 1"), 3), (TEXT.replace("table 2 3", "table 2 2"), 2), (TEXT.replace("table 2 3", "table 2 4"), 2),
                           (TEXT.replace("table 2 3", "table 2"), 1), (TEXT.replace("table 2 3", "table 2 3 0"), 1), ("table 0 1\n", 1), ("table 1 0\ndeed\n", 1),
                           ("table 13 1\n" + "deed 0 0\n" * 13, 1), ("table 12 1\n" + "deed 0 0\n" * 12, None), ("table 1 31\ndeed" + " 0 0" * 31 + "\n", 1), ("table 1 30\ndeed" + " 0 0" * 30 + "\n", None),
                           ("table 1 1\ndeed 0 -\n", 2), ("table 1 1\ndeed - 0\n", 2), ("table 1 1\ndeed 1 0\n", 2), ("table 1 1\ndeed 0 00\n", 2), ("table 1 1\ndeed 0 +1\n", 2), ("table 1 1\ndeed 0 -1\n", 2),
                           ("table 1 1\ndeed 0  1\n", 2), ("table 1 1\ndeed 0 1 \n", 2), ("table 1 1\n deed 0 1\n", 2), ("table 1 1\ndeeds 0 1\n", 2), ("table 1 1\ndeed 0\n", 2), ("table 1 1\ndeed 0 1 0\n", 2),
                           ("table 1 1\ndeed 0 " + "1" * 18 + "\n", None), ("table 1 1\ndeed 0 " + "1" * 19 + "\n", 2), ("table 1 1\ndeed 0 " + "0" * 19 + "\n", 2), ("table 1 1\ndeed 0 1x\n", 2),
                           ("table 1 1\ndeed 0 1.0\n", 2), ("table 1 1\ndeed 0 1_0\n", 2), ("table " + "1" * 19 + " 1\n", 1), ("table 1 1\ndeed 0 0", 2), ("table 1 1\n\n", 2), ("history 0\n", 1), (TEXT + TEXT, 4)):
            if line is None:
                self.assertEqual(table_text(read_table(text)), text)
            else:
                self.check_line(read_table, [text], line)

    def test_spoilt(self):
        draw = random.Random(1231)
        seen = {}
        for table in drawn_tables(1232, 500):
            text = spoilt(draw, table_text(table))
            kind, told = table_by_words(text)
            if kind == "table":
                self.assertEqual(read_table(text), told)
                self.assertEqual(table_text(told), text)
            else:
                self.check_line(read_table, [text], told)
            seen[kind, told if kind == "line" else 0] = True
        self.assertGreater(len(seen), 4)
        self.assertIn(("table", 0), seen)

    def test_no_strings(self):
        for value in NO_STRINGS:
            self.check_line(read_table, [value], 0)
        check_refused(self, BadTable, table_text, [TABLE], 0, NO_TABLE)


class Histories(Bad):
    def test_by_hand(self):
        self.assertEqual(history_text(TABLE, CALLS), CALLS_TEXT)
        self.assertEqual(history_text(table=TABLE, history=tuple(CALLS)), CALLS_TEXT)
        self.assertEqual(read_history(table=TABLE, text=CALLS_TEXT), CALLS)
        self.assertEqual(history_text(TABLE, []), "history 0\n")
        self.assertEqual(read_history(TABLE, "history 0\n"), [])
        self.assertEqual(read_history(TABLE, history_text(TABLE, HISTORY)), HISTORY)

    def test_sixty_calls(self):
        text = history_text(TABLE, chain(60))
        self.assertEqual(read_history(TABLE, text), chain(60))
        self.check_line(read_history, [TABLE, text.replace("history 60", "history 61") + "call 1 500 - 0 -\n"], 1)
        self.check_line(read_history, [TABLE, text.replace("history 60", "history 59")], 61)
        self.check_line(read_history, [TABLE, text + "call 1 500 - 0 -\n"], 62)

    def test_the_list_is_new(self):
        told = read_history(TABLE, CALLS_TEXT)
        self.assertIs(told.__class__, list)
        self.assertTrue(all(call.__class__ is tuple for call in told))
        told.clear()
        self.assertEqual(read_history(TABLE, CALLS_TEXT), CALLS)

    def test_lines(self):
        one = "history 1\ncall 0 1 2 0 0\n"
        two = "history 2\ncall 0 1 5 0 0\ncall {}\n"
        for text, line in (("", 1), ("history", 1), ("history 0", 1), ("history 1\n", 2), (one[:-1], 2), (one + "\n", 3), (one + "x", 3), ("history 00\n", 1), ("history -\n", 1), ("history +0\n", 1), ("history\n", 1),
                           ("history 0 0\n", 1), ("history  0\n", 1), ("histories 0\n", 1), (TEXT, 1), (one.replace("call", "calls"), 2), (one.replace("0 0\n", "0\n"), 2), (one.replace("0 0\n", "0 0 0\n"), 2),
                           ("history 1\ncall 6 1 2 0 0\n", 2), ("history 1\ncall - 1 2 0 0\n", 2), ("history 1\ncall 5 1 2 0 0\n", None), ("history 1\ncall 0 2 2 0 0\n", 2), ("history 1\ncall 0 3 2 0 0\n", 2),
                           ("history 1\ncall 0 - 2 0 0\n", 2), ("history 1\ncall 0 1 - 0 0\n", 2), ("history 1\ncall 0 1 2 0 -\n", 2), ("history 1\ncall 0 1 - 0 -\n", None), ("history 1\ncall 0 1 2 3 0\n", 2),
                           ("history 1\ncall 0 1 2 - 0\n", 2), ("history 1\ncall 0 1 2 2 0\n", None), ("history 1\ncall 0 01 2 0 0\n", 2), ("history 1\ncall 0 1  2 0 0\n", 2), ("history 1\ncall 0 1 2 0 0 \n", 2),
                           ("history 1\ncall 0 1 2 0 +0\n", 2), ("history 1\ncall 0 1 2 0 -0\n", 2), ("history 1\ncall 0 1 " + "9" * 18 + " 0 0\n", None), ("history 1\ncall 0 1 " + "9" * 19 + " 0 0\n", 2),
                           ("history 1\ncall 0 1 1" + "0" * 18 + " 0 0\n", 2), ("history 1\ncall 0 1 2 0 1" + "0" * 18 + "\n", 2), (two.format("1 2 3 0 0"), None), (two.format("1 1 3 0 0"), 3), (two.format("1 2 5 0 0"), 3),
                           (two.format("1 5 6 0 0"), 3), (two.format("0 6 7 0 0"), None), (two.format("0 2 3 0 0"), 3), (two.format("0 2 - 0 -"), 3), (two.format("0 6 - 0 -"), None), (two.format("1 0 1 0 0"), 3),
                           ("history 3\ncall 0 1 - 0 -\ncall 0 2 3 0 0\nx\n", 3), ("history 3\ncall 1 9 10 0 0\ncall 0 2 3 0 0\n", 4)):
            if line is None:
                self.assertEqual(history_text(TABLE, read_history(TABLE, text)), text)
            else:
                self.check_line(read_history, [TABLE, text], line)

    def test_drawn_and_spoilt(self):
        draw = random.Random(1233)
        seen, texts, told_histories = {}, set(), set()
        for _ in range(500):
            history = drawn_history(draw, TABLE, draw.randint(0, 9))
            text = history_text(TABLE, history)
            self.assertEqual(read_history(TABLE, text), history)
            texts.add(text)
            told_histories.add(tuple(history))
            text = spoilt(draw, text)
            kind, told = history_by_words(TABLE, text)
            if kind == "history":
                self.assertEqual(read_history(TABLE, text), told)
                self.assertEqual(history_text(TABLE, told), text)
            else:
                self.check_line(read_history, [TABLE, text], told)
            seen[kind] = seen.get(kind, 0) + 1
        self.assertEqual(len(texts), len(told_histories))
        self.assertGreater(min(seen.values()), 10)

    def test_errors(self):
        check_refused(self, BadTable, history_text, [TABLE, HISTORY], 0, NO_TABLE)
        check_refused(self, BadHistory, history_text, [TABLE, HISTORY], 1, NO_HISTORY)
        check_sequence(self, history_text, [TABLE, HISTORY], [(0, None, BadTable), (1, None, BadHistory)])
        check_refused(self, BadTable, read_history, [TABLE, CALLS_TEXT], 0, NO_TABLE)
        check_sequence(self, read_history, [TABLE, CALLS_TEXT], [(0, None, BadTable), (1, None, BadText)])
        for value in NO_STRINGS:
            self.check_line(read_history, [TABLE, value], 0)


if __name__ == "__main__":
    unittest.main()
