"""The interface: the names, the parameters and their sequence, and the file that defines each."""

import ast
import importlib
import inspect
import unittest
from pathlib import Path

from seenatonce.disks import Disk
from seenatonce.roads import Road
from seenatonce.tables import counting_table
from seenatonce.trust import Trust

PACKAGE = Path(__file__).resolve().parent.parent / "seenatonce"
# In the sequence of the document: each module imports only from those ahead of it.
MODULES = {
    "errors": "",
    "checks": "is_store(value), need_of(store)",
    "rows": "is_below(one, other), joined(rows), common(rows), first_parted(rows), is_line(value), line_of(rows), "
            "fits(line, row)",
    "lines": "are_lines(rows, many, value), are_bars(rows, value), most_on_lines(rows, many), fewest_lines(rows)",
    "tables": "is_table(value), done(table, state, deeds), apart(table, here, there), merged(table), "
              "commute(table, one, other), overwrites(table, one, other), is_served(table), with_look(table), "
              "product(left, right), beside(left, right), counting_table(size), greatest_table(size), "
              "growing_table(many), cells_table(many, values)",
    "settling": "blurred(table, state, one, other), settles_at(table, state, one, other), "
                "choice_of(table, state, one, other, hand, answer, seen), telling_deeds(table), kind_of(table), "
                "is_plan(table, value), woven(table, begin, plans, weaving), goes_wrong(table, begin, plans), "
                "settling_plans(table, state, one, other, teller), turning_point(table, begin, plans)",
    "trust": "",
    "sayings": "is_saying(trust, store, name), paper_of(trust, store, one, other), is_paper(trust, store, value), "
               "convicted(trust, store, paper)",
    "spans": "is_span(trust, store, value), span_of(look), is_look(trust, store, value), "
             "are_parted(trust, store, one, other)",
    "sheets": "is_sheet(trust, store, hand, name), is_stock(trust, store, value), row_of(stock), "
              "rows_told(trust, store, stock), is_closed(trust, store, stock, row)",
    "letters": "is_letter(store, value)",
    "disks": "",
    "houses": "",
    "roads": "",
    "lots": "is_lot(table, value), looks_order(table, lot), sees(table, lot, one, other), within(table, lot, row), "
            "lot_of(trust, store, table, stock, row)",
    "webs": "edges(table, lot), left_out(table, lot), way_back(table, lot, one, other), sequence_of(table, lot), "
            "is_sequence(table, lot, value), led_along(table, begin, lot, sequence), state_of(table, begin, lot), "
            "answers_due(table, begin, lot), is_borne(table, begin, lot), grown(table, begin, lot, hand, deed, row)",
    "court": "named(trust, store, one, other), went_back(trust, store, row, kept, had), "
             "spans_in_line(trust, store, spans)",
    "mending": "cells_of(store, disk), mended(trust, store, hand, cells)",
    # No module of the document: the rounds of hands.
    "rounds": "",
    "hands": "",
    "histories": "is_history(table, value), is_ahead(table, history, one, other), beginning(table, history, moment)",
    "cells": "clash_of(many, begin, history), cell_order(many, begin, history)",
    "orders": "is_order(table, begin, history, value), order_of(table, begin, history), "
              "states_behind(table, begin, history), first_wrong(table, begin, history)",
    "points": "points_of(table, history, places)",
    "parts": "split_history(one, other, history), joined_order(one, other, begin, history, first, second)",
    "shown": "is_scene(trust, store, stock, value), led(trust, store, stock, scene, plan), "
             "plan_to_show(trust, store, stock, scene, row), rows_shown(trust, store, stock, scene)",
    "sure": "liars_in(trust, store, known), keepers_of(trust, store, known, row), is_behind(trust, store, known, look), "
            "miss_of(trust, store, known, row), is_miss(trust, store, known, row, value), sure_row(trust, store, known)",
    "forget": "least_next(table, lot, hand), holder_of(table, lot, row), forgettable(table, lot), "
              "folded(table, begin, lot, row)",
    "clauses": "clauses(), parted_without(trust, store, clause)",
    "drills": "care_rules(), drilled(frame, liars, without, run)",
    "rules": "few_run(houses, lies), run_without(rule)",
    # No module of the document: houses that lie.
    "crowds": "",
    "runs": "",
    "texts": "table_text(table), read_table(text), history_text(table, history), read_history(table, text)",
}
# Each class as it is made, its methods, and its attributes.
CLASSES = {
    "trust": ("Trust()", "name(content), is_name(value), content(name), size(), seal(who, name), sealed(who, name)", ""),
    "disks": ("Disk(cells, fuse)", "read(cell), write(cell, value), cells()", "fuse"),
    "houses": ("House(trust, store, number, disk)", "stock(), past(), row(), hear(letter)", "trust store number disk"),
    "roads": ("Road(store)", "send(letter), count(), letter(number), waiting(receiver)", "store"),
    "hands": ("Hand(trust, store, table, begin, number, disk)", "call(deed), hear(letter), again(), answer()",
              "trust store table begin number disk life"),
    "drills": ("Drill(frame, liars, without)", "act(act), is_act(act), looks(), sheets(), rows(), letters(), hand_at(hand), wrong()",
               "frame liars without"),
    "runs": ("Play(table, begin, store, liars, picks)", "call(hand, deed), bring(number), again(hand), fall(who, writes), back(who), "
             "is_gone(who), cells_of(who), moment(), row_of_house(house), hand_at(hand), answer(hand), history()",
             "table begin store trust road liars"),
}
MADE_OF = {"cells": {}, "fuse": None, "trust": Trust(), "store": (2, 4, 1), "table": counting_table(3), "begin": 2,
           "number": 1, "disk": Disk({}, None), "frame": (2, 4, 1), "liars": (3,), "without": "told", "picks": [1, 2]}


def parts(text):
    """The pairs of a name and its parameters that a list of the interface tells."""
    for part in text.split("), "):
        if part:
            name, _, rest = part.partition("(")
            yield name, [word for word in rest.rstrip(")").split(", ") if word]


class Interface(unittest.TestCase):
    def test_functions(self):
        for module, text in MODULES.items():
            tree = ast.parse((PACKAGE / f"{module}.py").read_text())
            defined = {node.name for node in tree.body if isinstance(node, ast.FunctionDef)}
            for name, parameters in parts(text):
                self.assertIn(name, defined)
                call = getattr(importlib.import_module(f"seenatonce.{module}"), name)
                self.assertEqual(call.__module__, f"seenatonce.{module}")
                self.assertEqual(list(inspect.signature(call).parameters), parameters, name)

    def test_classes(self):
        for module, (made, methods, _) in CLASSES.items():
            ((kind, wanted),) = parts(made)
            told = getattr(importlib.import_module(f"seenatonce.{module}"), kind)
            self.assertEqual(told.__module__, f"seenatonce.{module}")
            self.assertEqual(list(inspect.signature(told).parameters), wanted)
            for name, parameters in parts(methods):
                self.assertIn(name, vars(told))
                self.assertEqual(list(inspect.signature(vars(told)[name]).parameters), ["self", *parameters])

    def test_attributes(self):
        for module, (made, _, attributes) in CLASSES.items():
            ((kind, wanted),) = parts(made)
            one = getattr(importlib.import_module(f"seenatonce.{module}"), kind)(**{name: MADE_OF[name] for name in wanted})
            for name in attributes.split():
                self.assertIn(name, vars(one))
                if (module, name) in (("runs", "trust"), ("runs", "road")):
                    self.assertIs(getattr(one, name).__class__, {"trust": Trust, "road": Road}[name])
                else:
                    self.assertEqual(getattr(one, name), MADE_OF.get(name, 1))

    def test_the_package_defines_nothing(self):
        self.assertEqual((PACKAGE / "__init__.py").read_text().strip(), "")

    def test_modules_import_only_from_those_ahead(self):
        ahead = list(MODULES)
        for module in MODULES:
            tree = ast.parse((PACKAGE / f"{module}.py").read_text())
            for node in ast.walk(tree):
                if isinstance(node, ast.ImportFrom):
                    self.assertIn(node.module.removeprefix("seenatonce."), ahead[:ahead.index(module)])


if __name__ == "__main__":
    unittest.main()
