"""The interface at the end of the document, and what of the form of the code can be seen by reading it."""

import ast
import builtins
import importlib
import inspect
import pathlib
import re
import unittest

PACKAGE = pathlib.Path(__file__).resolve().parent.parent / "rowsfilled"

MODULES = (
    "errors polys onevar turns resultants fields commons ones zeros minors moving coming filling solving several "
    "kinds steps oneletter twobytwo texts"
).split()

INTERFACE = {
    "polys": {
        "is_poly": "prime thing", "plus": "prime one other", "less": "prime one other", "times": "prime one other",
        "high": "prime poly letter", "part": "prime poly power", "lead": "prime poly", "put": "prime poly one other",
    },
    "onevar": {
        "divided": "prime one other", "common": "prime one other", "is_prime_poly": "prime poly",
        "factors": "prime poly",
    },
    "turns": {
        "turned": "prime poly turn", "turned_about": "turn", "is_plain": "prime poly", "made_plain": "prime polys",
    },
    "resultants": {"resultant": "prime one other"},
    "fields": {
        "rest_at": "prime modulus poly", "times_at": "prime modulus one other", "inverse_at": "prime modulus poly",
        "common_at": "prime modulus one other", "roots_at": "prime modulus poly",
    },
    "commons": {"common_factor": "prime one other", "quotient": "prime one other"},
    "ones": {"are_ones": "prime row thing", "ones": "prime row"},
    "zeros": {
        "is_spot": "prime row thing", "common_spot": "prime row", "zeros_at": "prime modulus row",
        "rest_size": "prime row",
    },
    "minors": {
        "grid_by": "prime grid table", "adjoint": "prime table", "minors": "prime grid", "multiples": "prime grid",
        "dependent": "prime grid", "is_dependent": "prime grid thing",
    },
    "moving": {
        "unit": "prime many", "table_product": "prime table other", "row_by": "prime row table",
        "determinant": "prime table", "inverse": "prime table", "placed": "prime poly place",
        "placed_row": "prime row place", "is_telling": "prime one other thing",
        "moved_two": "prime one other telling place goal", "mixed_entry": "prime row mixing",
        "moved_row": "prime row mixing telling place goal",
    },
    "coming": {
        "mixing_for": "prime row modulus", "is_coming": "prime row thing", "coming": "prime row",
    },
    "filling": {
        "places_of": "prime row brought", "moves_of": "prime row brought", "filled": "prime row",
        "is_filled": "prime row thing", "opened": "prime row", "is_opened": "prime row thing",
    },
    "solving": {
        "is_solution": "prime row thing", "basis": "prime row", "is_basis": "prime row thing",
        "parts_of": "prime row columns column", "led": "prime row other", "is_led": "prime row other thing",
    },
    "several": {
        "crossing": "prime strip", "last_row": "prime strip", "is_last_row": "prime strip thing",
        "solves": "prime strip row", "factor_of": "prime strip row", "goal_met": "prime strip goals",
    },
    "kinds": {
        "led_strip": "prime one other", "is_fold": "prime thing", "rank_of": "prime fold",
        "straightened": "prime fold", "led_fold": "prime one other",
    },
    "steps": {
        "step_table": "prime size step", "steps_table": "prime size steps", "steps_undone": "prime size steps",
        "steps_turned": "prime size steps", "steps_joined": "prime size steps", "crossed": "prime size one other",
        "exchanging": "prime size i j", "scaling": "prime size i j number",
    },
    "oneletter": {
        "x_steps": "prime size table", "is_steps_of": "prime size table thing", "x_row_steps": "prime row",
        "form_table": "prime form", "x_form": "prime table", "is_form": "prime thing",
    },
    "twobytwo": {
        "lowering": "prime pair", "lowered": "prime pair", "is_stuck": "prime pair", "pair_steps": "prime table",
        "pair_form_table": "prime form", "is_pair_form": "prime thing", "pair_form": "prime table",
    },
    "texts": {
        "poly_text": "prime poly", "row_text": "prime row", "grid_text": "prime grid", "steps_text": "prime size steps",
        "read_poly": "prime text", "read_row": "prime text", "read_grid": "prime text",
        "read_steps": "prime size text",
    },
}

BUILTINS = (
    "len range enumerate zip min max sum abs sorted reversed int str bool list tuple dict set isinstance ord repr any "
    "all divmod pow map iter next ValueError"
).split()

BARRED_WORDS = (
    "type typing enum Enum dataclass overload contextmanager namedtuple register mro elements open input law eval exec "
    "globals locals vars os gc id dir help global async"
).split()


def files():
    return sorted(PACKAGE.glob("*.py"))


def trees():
    return [(path, ast.parse(path.read_text(encoding="utf-8"))) for path in files()]


def bound_names(tree):
    found = []
    for row in tree.body:
        if isinstance(row, (ast.FunctionDef, ast.ClassDef)):
            found.append(row.name)
        elif isinstance(row, ast.Assign):
            found += [target.id for target in row.targets]
    return found


class InterfaceTest(unittest.TestCase):

    def test_all_modules_are_there(self):
        self.assertEqual(["errors"] + list(INTERFACE), MODULES)
        for name in MODULES:
            self.assertTrue((PACKAGE / f"{name}.py").is_file(), name)
        self.assertEqual(sum(len(functions) for functions in INTERFACE.values()), 102)

    def test_functions_stand_where_they_are_listed(self):
        for module, functions in INTERFACE.items():
            held = importlib.import_module(f"rowsfilled.{module}")
            for name, parameters in functions.items():
                function = getattr(held, name)
                self.assertTrue(inspect.isfunction(function))
                self.assertEqual(function.__module__, f"rowsfilled.{module}")
                told = inspect.signature(function).parameters
                self.assertEqual(list(told), parameters.split())
                for parameter in told.values():
                    self.assertEqual(parameter.kind, parameter.POSITIONAL_OR_KEYWORD)
                    self.assertIs(parameter.default, parameter.empty)

    def test_init_defines_nothing(self):
        tree = ast.parse((PACKAGE / "__init__.py").read_text(encoding="utf-8"))
        self.assertEqual(tree.body, [])

    def test_modules_import_from_earlier_ones_only(self):
        needs = {path.stem: self.modules_needed(tree) for path, tree in trees()}
        for name in needs:
            for other in self.all_needed(needs, name):
                if name in MODULES and other in MODULES:
                    self.assertLess(MODULES.index(other), MODULES.index(name), (name, other))
                self.assertNotEqual(other, name)

    def modules_needed(self, tree):
        return [row.module.split(".")[1] for row in tree.body if isinstance(row, ast.ImportFrom)]

    def all_needed(self, needs, name):
        found = []
        waiting = list(needs.get(name, []))
        while waiting:
            other = waiting.pop()
            if other not in found:
                found.append(other)
                waiting += needs[other]
        return found


class FormTest(unittest.TestCase):

    def test_only_plain_files(self):
        for path in PACKAGE.iterdir():
            if path.name != "__pycache__":
                self.assertRegex(path.name, r"^[a-z_][a-z0-9_]*\.py$")

    def test_size_and_characters(self):
        for path in files():
            text = path.read_bytes().decode("ascii")
            self.assertIsNone(re.search(r"[^ -~\n]", text), path)
            rows = text.split("\n")
            self.assertLessEqual(len(rows), 399, path)
            for row in rows:
                self.assertLessEqual(len(row), 120, path)
                self.assertEqual(row, row.rstrip(), path)

    def test_functions_are_short(self):
        for path, tree in trees():
            for node in ast.walk(tree):
                if isinstance(node, ast.FunctionDef):
                    self.assertLessEqual(node.end_lineno - node.lineno + 1, 40, (path, node.name))
                    self.assertEqual(node.decorator_list, [])

    def test_imports(self):
        for path, tree in trees():
            for node in ast.walk(tree):
                self.assertNotIsInstance(node, ast.Import, path)
                if isinstance(node, ast.ImportFrom):
                    self.assertIn(node, tree.body)
                    self.assertEqual(node.level, 0)
                    self.assertRegex(node.module, r"^rowsfilled\.[a-z]+$")
                    source = (PACKAGE / (node.module.split(".")[1] + ".py")).read_text(encoding="utf-8")
                    for alias in node.names:
                        self.assertIn(alias.name, bound_names(ast.parse(source)), path)
                        self.assertIsNone(alias.asname)

    def test_imports_are_used(self):
        for path, tree in trees():
            used = {node.id for node in ast.walk(tree) if isinstance(node, ast.Name)}
            for node in tree.body:
                if isinstance(node, ast.ImportFrom):
                    for alias in node.names:
                        self.assertIn(alias.name, used, path)

    def test_names(self):
        for path, tree in trees():
            imported = [alias.name for node in tree.body if isinstance(node, ast.ImportFrom) for alias in node.names]
            top = bound_names(tree) + imported
            self.assertEqual(len(top), len(set(top)), path)
            taken = set(imported) | {node.name for node in tree.body if isinstance(node, ast.ClassDef)}
            for node in ast.walk(tree):
                if isinstance(node, ast.Name) and isinstance(node.ctx, ast.Store) or isinstance(node, ast.arg):
                    name = node.id if isinstance(node, ast.Name) else node.arg
                    self.assertNotIn(name, taken, path)
                    self.assertFalse(hasattr(builtins, name), (path, name))
                    self.assertFalse(name.startswith("__"), (path, name))

    def test_builtins(self):
        for path, tree in trees():
            for node in ast.walk(tree):
                if isinstance(node, ast.Name) and hasattr(builtins, node.id):
                    self.assertIn(node.id, BUILTINS, path)

    def test_words(self):
        for path, tree in trees():
            names = [node.id for node in ast.walk(tree) if isinstance(node, ast.Name)]
            names += [node.attr for node in ast.walk(tree) if isinstance(node, ast.Attribute)]
            names += [node.arg for node in ast.walk(tree) if isinstance(node, ast.arg)]
            for word in BARRED_WORDS:
                self.assertNotIn(word, names, path)

    def test_values_and_statements(self):
        barred = (ast.Global, ast.AsyncFunctionDef, ast.Await, ast.Div, ast.MatMult, ast.Starred, ast.Set)
        for path, tree in trees():
            for node in ast.walk(tree):
                if isinstance(node, barred):
                    self.fail(f"{path}: {node}")
                if isinstance(node, ast.Constant):
                    self.assertNotIsInstance(node.value, (float, complex))
                    if isinstance(node.value, str):
                        self.assertNotIn("%", node.value)
                if isinstance(node, ast.Compare) and isinstance(node.ops[0], (ast.Is, ast.IsNot)):
                    self.assertIn(node.comparators[0].value, (None, True, False))

    def test_module_level(self):
        for path, tree in trees():
            for k, row in enumerate(tree.body):
                docstring = k == 0 and isinstance(row, ast.Expr) and isinstance(row.value, ast.Constant)
                kinds = (ast.FunctionDef, ast.ClassDef, ast.ImportFrom, ast.Assign)
                self.assertTrue(docstring or isinstance(row, kinds), path)
                if isinstance(row, ast.Assign):
                    ast.literal_eval(row.value)


if __name__ == "__main__":
    unittest.main()
