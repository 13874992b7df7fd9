"""Texts of tables and of histories, and what they tell."""

from seenatonce.errors import BadText
from seenatonce.histories import MOST_CALLS, check_history, is_history
from seenatonce.tables import MOST_DEEDS, MOST_STATES, check_table

MOST_FIGURES = 18
FIGURES = "0123456789"


def _line(word, values):
    """A line: a word, and numbers or None behind it."""
    return " ".join([word] + ["-" if value is None else str(value) for value in values]) + "\n"


def table_text(table):
    """The text of a table."""
    check_table(table)
    rows = [_line("deed", [item for step in deed for item in step]) for deed in table]
    return _line("table", [len(table), len(table[0])]) + "".join(rows)


def history_text(table, history):
    """The text of a history for the table."""
    check_history(table, history)
    return _line("history", [len(history)]) + "".join([_line("call", call) for call in history])


def _is_figures(word):
    """Whether a word tells a number: figures, without zeros ahead, and not too many."""
    if word == "" or len(word) > MOST_FIGURES or not all([sign in FIGURES for sign in word]):
        return False
    return word == "0" or word[0] != "0"


def _values(line, word, many):
    """The numbers of a line behind its word, None for "-"; None if there are not so many."""
    words = line.split(" ")
    if words[0] != word or len(words) != many + 1:
        return None
    if not all([told == "-" or _is_figures(told) for told in words[1:]]):
        return None
    return [None if told == "-" else int(told) for told in words[1:]]


def _lines(text):
    """The lines of a text that have a newline behind them; and what stands behind the last newline."""
    if not isinstance(text, str):
        raise BadText(0)
    lines = text.split("\n")
    return (lines[:-1], lines[-1])


def _head(lines, word, mosts):
    """The numbers of the first line, each of which has a least and a greatest value."""
    values = _values(lines[0], word, len(mosts)) if lines else None
    if values is None or not all([value is not None and least <= value <= most
                                  for value, (least, most) in zip(values, mosts)]):
        raise BadText(1)
    return values


def _check_end(lines, rest, many):
    """BadText for the line behind so many, if there is one."""
    if len(lines) > many or rest != "":
        raise BadText(many + 1)


def _deed(lines, k, states):
    """The deed that the line with this place tells."""
    values = _values(lines[k], "deed", 2 * states) if k < len(lines) else None
    if values is None or None in values or not all([behind < states for behind in values[::2]]):
        raise BadText(k + 1)
    return tuple(zip(values[::2], values[1::2]))


def read_table(text):
    """The table that the text tells."""
    lines, rest = _lines(text)
    deeds, states = _head(lines, "table", [(1, MOST_DEEDS), (1, MOST_STATES)])
    table = tuple([_deed(lines, k + 1, states) for k in range(deeds)])
    _check_end(lines, rest, deeds + 1)
    return table


def read_history(table, text):
    """The history for the table that the text tells."""
    check_table(table)
    lines, rest = _lines(text)
    many = _head(lines, "history", [(0, MOST_CALLS)])[0]
    history = []
    for k in range(1, many + 1):
        values = _values(lines[k], "call", 5) if k < len(lines) else None
        if values is None or not is_history(table, history + [tuple(values)]):
            raise BadText(k + 1)
        history.append(tuple(values))
    _check_end(lines, rest, many + 1)
    return history
