"""The interface: the names, the parameters and their sequence, and the file that defines each."""

import ast
import importlib
import inspect
import unittest
from pathlib import Path

PACKAGE = Path(__file__).resolve().parent.parent / "seenatonce"
# In the sequence of the document: each module imports only from those ahead of it.
MODULES = {
    "errors": "",
    "checks": "is_store(value), need_of(store)",
    "rows": "is_below(one, other), joined(rows), common(rows), first_parted(rows), is_line(value), line_of(rows), "
            "fits(line, row)",
    "lines": "are_lines(rows, many, value), are_bars(rows, value), most_on_lines(rows, many), fewest_lines(rows)",
    "tables": "is_table(value), done(table, state, deeds), apart(table, here, there), merged(table), "
              "commute(table, one, other), overwrites(table, one, other), is_served(table), with_look(table), "
              "product(left, right), beside(left, right), counting_table(size), greatest_table(size), "
              "growing_table(many), cells_table(many, values)",
    "settling": "blurred(table, state, one, other), settles_at(table, state, one, other), "
                "choice_of(table, state, one, other, hand, answer, seen), telling_deeds(table), kind_of(table), "
                "is_plan(table, value), woven(table, begin, plans, weaving), goes_wrong(table, begin, plans), "
                "settling_plans(table, state, one, other, teller), turning_point(table, begin, plans)",
    "trust": "",
    "sayings": "is_saying(trust, store, name), paper_of(trust, store, one, other), is_paper(trust, store, value), "
               "convicted(trust, store, paper)",
    "spans": "is_span(trust, store, value), span_of(look), is_look(trust, store, value), "
             "are_parted(trust, store, one, other)",
    "sheets": "is_sheet(trust, store, hand, name), is_stock(trust, store, value), row_of(stock), "
              "rows_told(trust, store, stock), is_closed(trust, store, stock, row)",
}
CLASSES = {"trust": {"Trust": "name(content), is_name(value), content(name), size(), seal(who, name), sealed(who, name)"}}


def parts(text):
    """The pairs of a name and its parameters that a list of the interface tells."""
    for part in text.split("), "):
        if part:
            name, _, rest = part.partition("(")
            yield name, [word for word in rest.rstrip(")").split(", ") if word]


class Interface(unittest.TestCase):
    def test_functions(self):
        for module, text in MODULES.items():
            tree = ast.parse((PACKAGE / f"{module}.py").read_text())
            defined = {node.name for node in tree.body if isinstance(node, ast.FunctionDef)}
            for name, parameters in parts(text):
                self.assertIn(name, defined)
                call = getattr(importlib.import_module(f"seenatonce.{module}"), name)
                self.assertEqual(call.__module__, f"seenatonce.{module}")
                self.assertEqual(list(inspect.signature(call).parameters), parameters, name)

    def test_classes(self):
        for module, classes in CLASSES.items():
            for kind, text in classes.items():
                made = getattr(importlib.import_module(f"seenatonce.{module}"), kind)
                self.assertEqual(made.__module__, f"seenatonce.{module}")
                for name, parameters in parts(text):
                    self.assertIn(name, vars(made))
                    self.assertEqual(list(inspect.signature(vars(made)[name]).parameters), ["self", *parameters])

    def test_the_package_defines_nothing(self):
        self.assertEqual((PACKAGE / "__init__.py").read_text().strip(), "")

    def test_modules_import_only_from_those_ahead(self):
        ahead = list(MODULES)
        for module in MODULES:
            tree = ast.parse((PACKAGE / f"{module}.py").read_text())
            for node in ast.walk(tree):
                if isinstance(node, ast.ImportFrom):
                    self.assertIn(node.module.removeprefix("seenatonce."), ahead[:ahead.index(module)])


if __name__ == "__main__":
    unittest.main()
