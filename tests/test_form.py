"""The form of the program: what of the rules L1 to L28 can be seen in its text.

The program uses less than the rules let: no generators, no match, no sets that are kept, and a try for one own error.
"""

import ast
import builtins
import unittest
from pathlib import Path

PACKAGE = Path(__file__).resolve().parent.parent / "seenatonce"
FILES = sorted(PACKAGE.glob("*.py"))
BUILTINS = """len range enumerate zip min max sum abs sorted reversed int str bool list tuple dict set isinstance repr any
all ValueError super""".split()
METHODS = """append clear copy count endswith extend find get index insert isalnum isalpha isdigit islower isspace isupper
items join keys ljust lower lstrip partition pop remove replace reverse rfind rjust rpartition rsplit rstrip setdefault
split splitlines startswith strip update upper values zfill""".split()
CHANGING = "append clear extend insert pop remove reverse setdefault update".split()
BARRED = """mro elements open input law version_info with_traceback add_note register attrgetter breakpoint builtins
compile copyright credits delattr dir eval exec exit gc getattr globals hasattr help id importlib license locals
methodcaller os quit setattr type vars sys typing enum Enum namedtuple dataclass overload contextmanager""".split()
BARRED_BEGINS = ("_wall", "_pe_", "_dcw_", "_enum_", "_cm_", "_twin_re_", "_lay_", "_law_", "_stub_", "_sre", "_cold",
                 "_tuplegetter", "_outside", "_record", "_written_out", "_member_names", "__")
STATEMENTS = (ast.Assign, ast.AugAssign, ast.Expr, ast.FunctionDef, ast.ClassDef, ast.If, ast.While, ast.For, ast.Return,
              ast.Raise, ast.Delete, ast.Break, ast.Continue, ast.Pass, ast.ImportFrom, ast.Assert, ast.Try)
NOT_USED = (ast.GeneratorExp, ast.SetComp, ast.Set, ast.Lambda, ast.NamedExpr, ast.Div, ast.Pow, ast.Yield, ast.YieldFrom,
            ast.Await)


def nodes(tree, *kinds):
    return [node for node in ast.walk(tree) if isinstance(node, kinds)]


def bound_names(tree):
    """All names that a tree binds: by assignments, loops, functions, classes, imports and parameters."""
    names = [node.id for node in nodes(tree, ast.Name) if isinstance(node.ctx, (ast.Store, ast.Del))]
    names += [node.name for node in nodes(tree, ast.FunctionDef, ast.ClassDef)]
    names += [node.arg for node in nodes(tree, ast.arg)]
    return names + [alias.asname or alias.name for node in nodes(tree, ast.ImportFrom) for alias in node.names]


class Form(unittest.TestCase):
    def setUp(self):
        self.texts = {path.name: path.read_text(encoding="utf-8") for path in FILES}
        self.trees = {name: ast.parse(text) for name, text in self.texts.items()}

    def each(self, *kinds):
        for name, tree in self.trees.items():
            for node in nodes(tree, *kinds):
                yield f"{name}:{getattr(node, 'lineno', 0)}", node

    def test_files_and_characters(self):
        for path in PACKAGE.iterdir():
            self.assertTrue(path.name == "__pycache__" or path.suffix == ".py" and path.name == path.name.lower(), path)
        for name, text in self.texts.items():
            self.assertTrue(all(" " <= sign <= "~" or sign == "\n" for sign in text), name)
            self.assertLessEqual(len(text.splitlines()), 399, name)
            self.assertTrue(all(len(line) <= 120 for line in text.splitlines()), name)

    def test_functions_are_small(self):
        for place, node in self.each(ast.FunctionDef):
            self.assertLessEqual(node.end_lineno - node.lineno + 1, 40, place)
            self.assertEqual(node.decorator_list, [], place)
            self.assertIsNone(node.args.vararg or node.args.kwarg, place)
            self.assertTrue(all(isinstance(value, ast.Constant) for value in node.args.defaults), place)

    def test_imports(self):
        for name, tree in self.trees.items():
            self.assertEqual(nodes(tree, ast.Import), [])
            used = {node.id for node in nodes(tree, ast.Name)}
            for node in nodes(tree, ast.ImportFrom):
                self.assertIn(node, tree.body)
                source = self.trees[node.module.removeprefix("seenatonce.") + ".py"]
                defined = [one.name for one in source.body if isinstance(one, (ast.FunctionDef, ast.ClassDef))]
                defined += [one.targets[0].id for one in source.body if isinstance(one, ast.Assign)]
                for alias in node.names:
                    self.assertIsNone(alias.asname)
                    self.assertIn(alias.name, defined, name)
                    self.assertIn(alias.name, used, name)

    def test_module_level(self):
        for name, tree in self.trees.items():
            for node in tree.body:
                plain = isinstance(node, (ast.ImportFrom, ast.FunctionDef, ast.ClassDef))
                plain = plain or isinstance(node, ast.Expr) and isinstance(node.value, ast.Constant)
                plain = plain or isinstance(node, ast.Assign) and isinstance(node.value, ast.Constant)
                self.assertTrue(plain, (name, node.lineno))
            top = [one for one in bound_names(ast.Module([node for node in tree.body if not isinstance(
                node, (ast.FunctionDef, ast.ClassDef))], []))]
            top += [node.name for node in tree.body if isinstance(node, (ast.FunctionDef, ast.ClassDef))]
            self.assertEqual(len(top), len(set(top)), name)

    def test_no_name_is_bound_again_within(self):
        for name, tree in self.trees.items():
            outer = {alias.name for node in nodes(tree, ast.ImportFrom) for alias in node.names}
            outer |= {node.name for node in nodes(tree, ast.ClassDef)}
            for node in nodes(tree, ast.FunctionDef):
                inner = [one.arg for one in nodes(node, ast.arg)]
                inner += [one.id for one in nodes(node, ast.Name) if isinstance(one.ctx, ast.Store)]
                self.assertEqual(outer & set(inner), set(), (name, node.name))

    def test_names(self):
        for file, tree in self.trees.items():
            methods = {one.name for node in nodes(tree, ast.ClassDef) for one in node.body if isinstance(one, ast.FunctionDef)}
            for name in bound_names(tree):
                self.assertTrue(name.isascii() and name not in BARRED, (file, name))
                self.assertTrue(name in ("_", "__init__") or not name.startswith(BARRED_BEGINS), (file, name))
                self.assertTrue(name in methods or not hasattr(builtins, name), (file, name))
            read = [node.id for node in nodes(tree, ast.Name) if isinstance(node.ctx, ast.Load)]
            self.assertNotIn("_", read)
            used = [name for name in read if hasattr(builtins, name)]
            self.assertTrue(set(used) <= set(BUILTINS), (file, used))
        for place, node in self.each(ast.Attribute):
            self.assertFalse(node.attr in BARRED or node.attr.startswith("__") and node.attr != "__init__", place)

    def test_statements_and_expressions(self):
        for place, node in self.each(ast.stmt):
            self.assertTrue(isinstance(node, STATEMENTS), place)
        for place, node in self.each(*NOT_USED):
            self.fail(place)
        for place, node in self.each(ast.Constant):
            self.assertFalse(isinstance(node.value, (float, complex)), place)
            if isinstance(node.value, str):
                self.assertNotIn("%", node.value, place)
        for place, node in self.each(ast.Compare):
            for sign, other in zip(node.ops, node.comparators):
                if isinstance(sign, (ast.Is, ast.IsNot)):
                    self.assertTrue(isinstance(other, ast.Constant) and other.value is None, place)
        for place, node in self.each(ast.Starred):
            self.assertFalse(isinstance(node.value, ast.Call), place)

    def test_only_own_errors_are_caught(self):
        own = {node.name for node in nodes(self.trees["errors.py"], ast.ClassDef)}
        for place, node in self.each(ast.Try):
            self.assertEqual((len(node.handlers), node.orelse, node.finalbody), (1, [], []), place)
            self.assertTrue(isinstance(node.handlers[0].type, ast.Name) and node.handlers[0].name is None, place)
            self.assertIn(node.handlers[0].type.id, own, place)

    def test_methods_that_are_called(self):
        own = {one.name for _, node in self.each(ast.ClassDef) for one in node.body if isinstance(one, ast.FunctionDef)}
        for place, node in self.each(ast.Call):
            if isinstance(node.func, ast.Attribute):
                self.assertIn(node.func.attr, {*METHODS, *own}, place)

    def test_sets_are_sorted_measured_or_nothing(self):
        for file, tree in self.trees.items():
            right = set()
            for node in nodes(tree, ast.Call):
                if isinstance(node.func, ast.Name) and node.func.id in ("sorted", "len") and not node.keywords:
                    right |= {id(one) for one in node.args}
            for node in nodes(tree, ast.Call):
                if isinstance(node.func, ast.Name) and node.func.id == "set":
                    self.assertIn(id(node), right, (file, node.lineno))

    def test_loops_do_not_change_what_they_go_over(self):
        for place, node in self.each(ast.For):
            over = {one.id for one in nodes(node.iter, ast.Name)}
            for one in [one for row in node.body for one in ast.walk(row)]:
                if isinstance(one, ast.Call) and isinstance(one.func, ast.Attribute) and one.func.attr in CHANGING:
                    self.assertFalse({name.id for name in nodes(one.func.value, ast.Name)} & over, place)
                if isinstance(one, ast.Subscript) and not isinstance(one.ctx, ast.Load):
                    self.assertFalse({name.id for name in nodes(one.value, ast.Name)} & over, place)

    def test_lazy_values_are_iterated_on_the_spot(self):
        for file, tree in self.trees.items():
            right = {id(node.iter) for node in nodes(tree, ast.For, ast.comprehension)}
            for node in nodes(tree, ast.Call):
                if isinstance(node.func, ast.Name) and node.func.id in ("list", "tuple", "sorted", "sum", "any", "all"):
                    right |= {id(one) for one in node.args}
            right |= {id(node.value) for node in nodes(tree, ast.Assign) if isinstance(node.value, ast.Call)
                      and isinstance(node.value.func, ast.Name) and node.value.func.id == "range"}
            for node in nodes(tree, ast.Call):
                if isinstance(node.func, ast.Name) and node.func.id in ("zip", "range", "enumerate", "reversed"):
                    self.assertIn(id(node), right, (file, node.lineno))

    def test_classes(self):
        for place, node in self.each(ast.ClassDef):
            self.assertEqual(node.decorator_list, [], place)
            for one in node.body:
                doc = isinstance(one, ast.Expr) and isinstance(one.value, ast.Constant)
                self.assertTrue(doc or isinstance(one, ast.FunctionDef), place)
        for place, node in self.each(ast.Raise):
            self.assertTrue(isinstance(node.exc, ast.Call) and isinstance(node.exc.func, ast.Name), place)
            self.assertTrue(node.cause is None and not node.exc.keywords, place)


if __name__ == "__main__":
    unittest.main()
