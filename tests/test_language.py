"""What of the rules of LANGUAGE.md can be seen in the files of the package, and the names of the interface."""

import ast
import builtins
import importlib
import inspect
import os
import re
import unittest

import anytwo

FOLDER = os.path.dirname(os.path.abspath(anytwo.__file__))
FILES = sorted(name for name in os.listdir(FOLDER) if name != "__pycache__")

INTERFACE = {
    "errors": {},
    "programs": {"made_program": ["thing"], "is_program": ["thing"]},
    "places": {"places": ["program"], "next_place": ["program", "place"]},
    "plays": {"play": ["program", "choices"]},
    "words": {"pair_word": ["program", "choices", "i", "j"]},
    "rules": {"made_rule": ["thing"], "is_rule": ["thing"], "word_in": ["rule", "word"]},
    "tables": {"table": ["rule"], "least": ["table_"]},
    "tablesums": {
        "joined": ["one", "two", "word"], "word_table": ["word"], "apart": ["one", "two"],
        "implies_not": ["one", "two"], "implies": ["one", "two"],
    },
    "tabletexts": {"table_text": ["table_"], "table_of": ["text"]},
    "walker": {"steps_of": ["program", "state"]},
    "reach": {"reach": ["program"]},
    "verdicts": {
        "breaks_at": ["program", "table_", "choices"], "least_steps": ["program", "table_"],
        "keeps": ["program", "table_"], "breaking": ["program", "table_"],
    },
    "yespapers": {"yes_paper": ["program", "table_"], "yes_right": ["program", "table_", "paper"]},
    "runs": {"told_run": ["program", "table_", "choices"]},
    "programtables": {"program_table": ["program"], "tightest": ["program"]},
    "alikes": {"alike": ["one", "two"], "parting": ["one", "two"], "part_of": ["one", "two"]},
    "code": {"compiled": ["program"]},
    "book": {"Book": ["program", "tables"]},
    "reader": {"read": ["text"]},
    "printer": {"told_text": ["program"]},
    "rulereader": {"read_rule": ["text"], "told_rule": ["rule"]},
    "machine": {"run": ["code", "choices"], "watch": ["code", "table_", "choices"]},
}

BUILTINS = set((
    "len range enumerate zip min max sum abs sorted reversed int str bool list tuple dict set isinstance ord repr any "
    "all divmod ValueError KeyError IndexError LookupError ZeroDivisionError"
).split())
METHODS = set((
    "append clear copy count endswith extend find get index insert isalnum isalpha isdigit islower isspace isupper "
    "items join keys ljust lower lstrip partition pop remove replace reverse rfind rjust rpartition rsplit rstrip "
    "setdefault split splitlines startswith strip update upper values zfill bit_length sort add discard"
).split())
STATEMENTS = (
    ast.Assign, ast.AugAssign, ast.If, ast.While, ast.For, ast.Return, ast.Break, ast.Continue, ast.Pass, ast.Raise,
    ast.Assert, ast.Delete, ast.Try, ast.Expr, ast.FunctionDef,
)
BARRED = re.compile(r"\b(type|typing|enum|namedtuple|dataclass|overload|contextmanager|law|register|open|input)\b")


def source(name):
    with open(os.path.join(FOLDER, name), encoding="utf-8") as file:
        return file.read()


def bound_at_module_level(tree):
    names = []
    for node in tree.body:
        if isinstance(node, ast.ImportFrom):
            names += [alias.asname or alias.name for alias in node.names]
        elif isinstance(node, (ast.FunctionDef, ast.ClassDef)):
            names.append(node.name)
        elif isinstance(node, ast.Assign):
            names += [target.id for target in node.targets]
    return names


def defined(tree):
    return [name for node in tree.body if not isinstance(node, ast.ImportFrom)
            for name in bound_at_module_level(ast.Module([node], []))]


def imports_of(tree):
    return [node for node in ast.walk(tree) if isinstance(node, (ast.Import, ast.ImportFrom))]


class TestFiles(unittest.TestCase):
    def setUp(self):
        self.trees = {name: ast.parse(source(name)) for name in FILES}

    def test_plain_files(self):
        self.assertIn("__init__.py", FILES)
        for name in FILES:
            self.assertRegex(name, r"^[a-z_][a-z0-9_]*\.py$")

    def test_characters_and_sizes(self):
        for name in FILES:
            text = source(name)
            self.assertRegex(text, r"^[ -~\n]*$", name)
            lines = text.split("\n")
            self.assertLess(len(lines), 400, name)
            self.assertTrue(all(len(line) <= 120 for line in lines), name)
            for node in ast.walk(self.trees[name]):
                if isinstance(node, ast.FunctionDef):
                    self.assertLessEqual(node.end_lineno - node.lineno + 1, 40, node.name)

    def test_module_level(self):
        for name, tree in self.trees.items():
            for node in tree.body:
                if isinstance(node, ast.Expr):
                    self.assertIsInstance(node.value.value, str)
                else:
                    self.assertIsInstance(node, (ast.ImportFrom, ast.FunctionDef, ast.ClassDef, ast.Assign), name)
            names = bound_at_module_level(tree)
            self.assertEqual(len(names), len(set(names)), name)

    def test_imports(self):
        for name, tree in self.trees.items():
            for node in imports_of(tree):
                self.assertIsInstance(node, ast.ImportFrom)
                self.assertIn(node, tree.body)
                if node.module == "heapq":
                    self.assertTrue({alias.name for alias in node.names} <= {"heappush", "heappop"})
                    continue
                package, file = node.module.split(".")
                self.assertEqual((package, node.level), ("anytwo", 0))
                for alias in node.names:
                    self.assertIsNone(alias.asname)
                    self.assertIn(alias.name, defined(self.trees[file + ".py"]))

    def test_each_import_is_used(self):
        for name, tree in self.trees.items():
            read = {node.id for node in ast.walk(tree) if isinstance(node, ast.Name)}
            for node in imports_of(tree):
                for alias in node.names:
                    self.assertIn(alias.name, read, name)

    def test_no_round_of_imports(self):
        leads = {name: {node.module.split(".")[1] + ".py" for node in imports_of(tree) if node.module != "heapq"}
                 for name, tree in self.trees.items()}
        while leads:
            free = [name for name in leads if not leads[name] & set(leads)]
            self.assertTrue(free, leads)
            for name in free:
                del leads[name]

    def test_names(self):
        for name, tree in self.trees.items():
            barred = {alias.name for node in imports_of(tree) for alias in node.names}
            barred |= {node.name for node in tree.body if isinstance(node, ast.ClassDef)}
            outer = set(bound_at_module_level(tree))
            inner = set()
            for node in ast.walk(tree):
                if isinstance(node, ast.arg):
                    inner.add(node.arg)
                elif isinstance(node, ast.Name) and isinstance(node.ctx, ast.Store) and node.id not in outer:
                    inner.add(node.id)
            self.assertFalse(inner & barred, name)
            for one in inner | outer:
                self.assertFalse(hasattr(builtins, one), (name, one))
            for node in ast.walk(tree):
                if isinstance(node, ast.Name) and hasattr(builtins, node.id):
                    self.assertIn(node.id, BUILTINS, name)

    def test_statements_and_expressions(self):
        for name, tree in self.trees.items():
            self.assertIsNone(BARRED.search(source(name)), name)
            for node in ast.walk(tree):
                if isinstance(node, ast.FunctionDef):
                    self.assertFalse(node.decorator_list)
                    for row in node.body:
                        self.assertIsInstance(row, STATEMENTS, (name, node.name))
                self.assertNotIsInstance(node, (
                    ast.Global, ast.AsyncFunctionDef, ast.AsyncFor, ast.Await, ast.Div, ast.GeneratorExp, ast.Yield,
                    ast.YieldFrom, ast.Set,
                ), name)
                if isinstance(node, ast.Constant):
                    self.assertNotIsInstance(node.value, (float, complex), name)
                    self.assertFalse(isinstance(node.value, str) and "%" in node.value, name)

    def test_methods(self):
        own = {node.name for tree in self.trees.values() for node in ast.walk(tree) if isinstance(node, ast.FunctionDef)}
        for name, tree in self.trees.items():
            for node in ast.walk(tree):
                if isinstance(node, ast.Call) and isinstance(node.func, ast.Attribute):
                    self.assertIn(node.func.attr, METHODS | own, name)

    def test_sets_are_only_asked(self):
        # A set stands in sorted or len alone, so that its order is of no matter.
        for name, tree in self.trees.items():
            kept = {id(node.args[0]) for node in ast.walk(tree) if isinstance(node, ast.Call)
                    and isinstance(node.func, ast.Name) and node.func.id in ("sorted", "len")}
            for node in ast.walk(tree):
                if isinstance(node, ast.SetComp) or (
                    isinstance(node, ast.Call) and isinstance(node.func, ast.Name) and node.func.id == "set"
                ):
                    self.assertIn(id(node), kept, name)


class TestInterface(unittest.TestCase):
    def test_names_and_arguments(self):
        for file, functions in INTERFACE.items():
            module = importlib.import_module("anytwo." + file)
            for name, arguments in functions.items():
                function = getattr(module, name)
                self.assertEqual(function.__module__, "anytwo." + file)
                self.assertEqual(list(inspect.signature(function).parameters), arguments)


if __name__ == "__main__":
    unittest.main()
