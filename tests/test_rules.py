"""The interface of the files that have landed, and those rules of LANGUAGE.md that a short test can see."""

import ast
import builtins
import importlib
import inspect
import pathlib
import unittest

PACKAGE = pathlib.Path(__file__).resolve().parent.parent / "reflows"

# For each file the functions that the interface lists in it, with their arguments.
FUNCTIONS = {
    "words": {
        "is_integer": "(value, low, high)", "is_word": "(value)", "is_mark": "(value)", "is_token": "(value)",
        "kind_of": "(mark)", "indent_of": "(mark)", "mark_place": "(mark)", "all_marks": "()",
        "break_of": "(kind, indent)", "parse_integer": "(text, *, low=0, high=999)", "split_words": "(text)",
    },
    "texts": {
        "is_text": "(value)", "text_of": "(marks, words)", "marks_of": "(text)", "lengths_of": "(text)",
        "unlike_marks": "(one, other)", "lines": "(text)", "widths": "(text)", "columns": "(text)",
        "place_of": "(text, index)", "page": "(text)", "read_page": "(page)", "write_text": "(text)",
        "read_text": "(writing)",
    },
}

LIBRARY = {
    "heapq": {"heappush", "heappop", "heapify", "heapreplace", "heappushpop"},
    "math": {"gcd", "lcm", "isqrt", "comb", "perm", "factorial"},
    "itertools": {"product", "combinations", "permutations"},
}

BUILTINS = set((
    "len range enumerate zip min max sum abs sorted reversed int str bool bytes list tuple dict set frozenset "
    "isinstance ord repr any all divmod map iter next super property staticmethod classmethod Exception ValueError "
    "TypeError KeyError IndexError LookupError ZeroDivisionError ArithmeticError OverflowError RuntimeError "
    "NotImplementedError AttributeError StopIteration NotImplemented"
).split())

UNUSED_NAMES = {"register", "mro", "elements", "open", "input", "law", "version_info", "with_traceback", "add_note"}

BARRED = (
    ast.Global, ast.AsyncFunctionDef, ast.AsyncFor, ast.AsyncWith, ast.Await, ast.Div, ast.MatMult, ast.Import,
)


def files():
    """Return the files of the package."""
    return sorted(PACKAGE.rglob("*.py"))


def nodes(path):
    """Return all nodes of the tree of a file."""
    return list(ast.walk(ast.parse(path.read_text(encoding="utf-8"))))


class InterfaceTest(unittest.TestCase):
    def test_the_functions_are_defined_where_the_interface_lists_them(self):
        for module, functions in FUNCTIONS.items():
            loaded = importlib.import_module("reflows." + module)
            for name, arguments in functions.items():
                found = getattr(loaded, name)
                self.assertEqual(found.__module__, "reflows." + module)
                self.assertEqual(str(inspect.signature(found)), arguments, name)

    def test_lines_is_a_generator(self):
        self.assertTrue(inspect.isgeneratorfunction(importlib.import_module("reflows.texts").lines))


class FolderTest(unittest.TestCase):
    def test_the_folder_holds_files_of_the_program_alone(self):
        for path in PACKAGE.rglob("*"):
            if "__pycache__" not in path.parts:
                self.assertEqual(path.suffix, ".py")
                self.assertNotIn("test", path.stem)
        self.assertTrue((PACKAGE / "__init__.py").is_file())

    def test_sizes_and_characters(self):
        for path in files():
            text = path.read_text(encoding="utf-8")
            rows = text.split("\n")
            self.assertLessEqual(len(rows) - 1, 399, path)
            self.assertLessEqual(max([len(row) for row in rows]), 120, path)
            self.assertTrue(all([char == "\n" or " " <= char <= "~" for char in text]), path)

    def test_functions_have_at_most_forty_lines(self):
        for path in files():
            for node in nodes(path):
                if isinstance(node, ast.FunctionDef):
                    self.assertLessEqual(node.end_lineno - node.lineno + 1, 40, node.name)


class RuleTest(unittest.TestCase):
    def test_imports_name_the_file_that_defines(self):
        for path in files():
            for node in nodes(path):
                if isinstance(node, ast.ImportFrom):
                    self.assertEqual(node.level, 0)
                    self.check_import(node.module, [alias.name for alias in node.names])

    def check_import(self, module, names):
        if module in LIBRARY:
            self.assertLessEqual(set(names), LIBRARY[module])
            return
        self.assertTrue(module.startswith("reflows."), module)
        tree = ast.parse((PACKAGE / (module[len("reflows."):] + ".py")).read_text(encoding="utf-8"))
        defined = set()
        for node in tree.body:
            if isinstance(node, (ast.FunctionDef, ast.ClassDef)):
                defined.add(node.name)
            if isinstance(node, ast.Assign):
                defined.add(node.targets[0].id)
        self.assertLessEqual(set(names), defined)

    def test_module_level_holds_definitions_alone(self):
        for path in files():
            body = ast.parse(path.read_text(encoding="utf-8")).body
            self.assertTrue(isinstance(body[0], ast.Expr) and isinstance(body[0].value, ast.Constant), path)
            for node in body[1:]:
                self.assertIsInstance(node, (ast.ImportFrom, ast.FunctionDef, ast.ClassDef, ast.Assign))

    def test_barred_statements_and_operators(self):
        for path in files():
            for node in nodes(path):
                self.assertNotIsInstance(node, BARRED, path)
                if isinstance(node, (ast.FunctionDef, ast.ClassDef)):
                    decorators = [ast.unparse(item).split(".")[-1] for item in node.decorator_list]
                    self.assertLessEqual(set(decorators), {"property", "staticmethod", "classmethod", "setter"})

    def test_constants(self):
        for path in files():
            for node in nodes(path):
                if isinstance(node, ast.Constant):
                    self.assertNotIsInstance(node.value, (float, complex))
                    self.assertFalse(isinstance(node.value, str) and "%" in node.value, path)

    def test_names(self):
        known = set(dir(builtins))
        for path in files():
            for node in nodes(path):
                if isinstance(node, ast.Name):
                    self.assertNotIn(node.id, (known - BUILTINS) | UNUSED_NAMES, path)
                    self.assertFalse(isinstance(node.ctx, ast.Store) and node.id in known, node.id)
                if isinstance(node, ast.arg):
                    self.assertNotIn(node.arg, known | UNUSED_NAMES, path)


if __name__ == "__main__":
    unittest.main()
