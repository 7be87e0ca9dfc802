"""The interface of the files that have landed, and those rules of LANGUAGE.md that a short test can see."""

import ast
import builtins
import importlib
import inspect
import pathlib
import unittest

PACKAGE = pathlib.Path(__file__).resolve().parent.parent / "reflows"

# For each file the functions that the interface lists in it, with their arguments.
FUNCTIONS = {
    "words": {
        "is_integer": "(value, low, high)", "is_word": "(value)", "is_mark": "(value)", "is_token": "(value)",
        "kind_of": "(mark)", "indent_of": "(mark)", "mark_place": "(mark)", "all_marks": "()",
        "break_of": "(kind, indent)", "parse_integer": "(text, *, low=0, high=999)", "split_words": "(text)",
    },
    "texts": {
        "is_text": "(value)", "text_of": "(marks, words)", "marks_of": "(text)", "lengths_of": "(text)",
        "unlike_marks": "(one, other)", "lines": "(text)", "widths": "(text)", "columns": "(text)",
        "place_of": "(text, index)", "page": "(text)", "read_page": "(page)", "write_text": "(text)",
        "read_text": "(writing)",
    },
    "steps": {"is_step": "(value)", "read_step": "(text)"},
    "chains": {"read_chain": "(text)"},
    "comparisons": {
        "alike": "(one, other, stock)", "settles": "(chain, stock)", "exchange": "(one, other, stock)",
        "swallows": "(one, other, stock)", "idle_steps": "(chain, stock)", "fewest_steps": "(chain, stock)",
    },
    "backs": {
        "takes_back": "(back, chain, stock, *, made_by=None)", "restores": "(back, chain, stock)",
        "confused": "(chain, stock)", "never_told": "(chain, stock)", "origins": "(chain, stock)",
        "origin_text": "(chain, stock, made, mark)", "powers": "(chain, stock, *, most=3)",
    },
    "rates": {
        "widest": "(chain, stock)", "widest_paper": "(chain, stock)", "line_share": "(chain, stock, *, most=False)",
        "share_paper": "(chain, stock, *, most=False)", "is_share_paper": "(chain, stock, value, *, most=False)",
    },
    "ripples": {
        "ripple": "(chain, stock, change)", "ripple_paper": "(chain, stock, change)", "stops": "(chain, stock)",
        "meeting": "(chain, stock)",
    },
    "sayings": {
        "is_pattern": "(value)", "pattern_places": "(text, pattern)", "comes": "(pattern, chain, stock)",
        "never_paper": "(pattern, chain, stock)", "is_never_paper": "(pattern, chain, stock, value)",
    },
    "toldback": {"least_source": "(stock, chain, text)"},
}

# For each file the generators, with the class of those that are methods.
GENERATORS = [
    ("texts", None, "lines"), ("stocks", "Stock", "texts"), ("sayings", None, "pattern_places"),
    ("toldback", "Sources", "each"),
]

STEP_METHODS = {
    "__call__": "(self, text)", "__str__": "(self)", "__eq__": "(self, other)", "begin": "(self)",
    "read": "(self, state, mark, length)", "reach": None,
}

# For each file its classes, and for each class its methods with their arguments, None for a property.
CLASSES = {
    "steps": {
        "Wrap": {"__init__": "(self, width, indent='same')", **STEP_METHODS},
        "Group": {"__init__": "(self, most)", **STEP_METHODS},
        "Alone": {"__init__": "(self, longest)", **STEP_METHODS},
        "Join": {"__init__": "(self, kinds)", **STEP_METHODS},
        "Turn": {"__init__": "(self, kinds, kind)", **STEP_METHODS},
        "Align": {"__init__": "(self, kinds, indent)", **STEP_METHODS},
        "Shift": {"__init__": "(self, by)", **STEP_METHODS},
        "Hang": {"__init__": "(self, by)", **STEP_METHODS},
    },
    "chains": {
        "Chain": {
            "__init__": "(self, steps=())", "steps": "(self)", "__len__": "(self)", "__getitem__": "(self, index)",
            "__iter__": "(self)", "__add__": "(self, other)", "without": "(self, index)", **STEP_METHODS,
        },
    },
    "stocks": {
        "Stock": {
            "__init__": "(self, marks, *, shortest=1, longest=4)", "marks": "(self)", "lengths": "(self)",
            "__eq__": "(self, other)", "letters": "(self)", "first_letters": "(self)", "__len__": "(self)",
            "__contains__": "(self, value)", "holds": "(self, text)", "__and__": "(self, other)",
            "__or__": "(self, other)", "within": "(self, other)", "amount": "(self, many)", "texts": "(self, many)",
            "text_at": "(self, many, number)", "number_of": "(self, text)", "__str__": "(self)", "parse": "(cls, text)",
        },
    },
    "machines": {
        "Machine": {
            "__init__": "(self, chain, stock)", "__len__": "(self)", "__eq__": "(self, other)", "letters": "(self)",
            "read": "(self, state, mark, length)", "run": "(self, text)", "shortest": "(self, state)",
        },
    },
    "toldback": {
        "Sources": {
            "__init__": "(self, stock, reports)", "amount": "(self)", "each": "(self)", "source_at": "(self, number)",
            "marks_at": "(self, index)", "sure": "(self)", "often": "(self, index, mark)",
            "with_report": "(self, chain, text)", "__contains__": "(self, value)",
        },
    },
    "desk": {
        "Desk": {
            "__init__": "(self)", "names": "(self)", "__getitem__": "(self, name)", "__eq__": "(self, other)",
            "put": "(self, name, chain)", "drop": "(self, name)", "use": "(self, stock)", "write": "(self, text)",
            "apply": "(self, name)", "undo": "(self)", "redo": "(self)", "copied": "(self)", "run": "(self, line)",
            "run_all": "(self, lines)", "text": None,
        },
    },
}

LIBRARY = {
    "heapq": {"heappush", "heappop", "heapify", "heapreplace", "heappushpop"},
    "math": {"gcd", "lcm", "isqrt", "comb", "perm", "factorial"},
    "itertools": {"product", "combinations", "permutations"},
}

BUILTINS = set((
    "len range enumerate zip min max sum abs sorted reversed int str bool bytes list tuple dict set frozenset "
    "isinstance ord repr any all divmod map iter next super property staticmethod classmethod Exception ValueError "
    "TypeError KeyError IndexError LookupError ZeroDivisionError ArithmeticError OverflowError RuntimeError "
    "NotImplementedError AttributeError StopIteration NotImplemented"
).split())

UNUSED_NAMES = {"register", "mro", "elements", "open", "input", "law", "version_info", "with_traceback", "add_note"}

# The double-underscore methods that L5 allows and that are used so far.
DOUBLE = set((
    "__init__ __eq__ __str__ __repr__ __len__ __call__ __iter__ __add__ __and__ __or__ __contains__ __getitem__"
).split())

BARRED = (
    ast.Global, ast.AsyncFunctionDef, ast.AsyncFor, ast.AsyncWith, ast.Await, ast.Div, ast.MatMult, ast.Import,
)


def files():
    """Return the files of the package."""
    return sorted(PACKAGE.rglob("*.py"))


def nodes(path):
    """Return all nodes of the tree of a file."""
    return list(ast.walk(ast.parse(path.read_text(encoding="utf-8"))))


class InterfaceTest(unittest.TestCase):
    def test_the_functions_are_defined_where_the_interface_lists_them(self):
        for module, functions in FUNCTIONS.items():
            loaded = importlib.import_module("reflows." + module)
            for name, arguments in functions.items():
                found = getattr(loaded, name)
                self.assertEqual(found.__module__, "reflows." + module)
                self.assertEqual(str(inspect.signature(found)), arguments, name)

    def test_the_classes_are_defined_where_the_interface_lists_them(self):
        for module, classes in CLASSES.items():
            loaded = importlib.import_module("reflows." + module)
            for name, methods in classes.items():
                self.assertEqual(getattr(loaded, name).__module__, "reflows." + module)
                for method, arguments in methods.items():
                    self.check_method(vars(getattr(loaded, name))[method], arguments)

    def check_method(self, found, arguments):
        if arguments is None:
            self.assertIsInstance(found, property)
            return
        if arguments.startswith("(cls"):
            self.assertIsInstance(found, classmethod)
            found = found.__func__
        self.assertEqual(str(inspect.signature(found)), arguments, found)

    def test_generators(self):
        for module, owner, name in GENERATORS:
            held = importlib.import_module("reflows." + module)
            found = getattr(getattr(held, owner) if owner else held, name)
            self.assertTrue(inspect.isgeneratorfunction(found), name)

    def test_no_other_function_yields_under_a_name_that_stands_twice(self):
        names, yielding = [], set()
        for path in files():
            for node in nodes(path):
                if isinstance(node, ast.FunctionDef):
                    names.append(node.name)
                    if any([isinstance(inner, (ast.Yield, ast.YieldFrom)) for inner in ast.walk(node)]):
                        yielding.add(node.name)
        self.assertEqual([name for name in yielding if names.count(name) > 1], [])
        self.assertLessEqual({name for _, _, name in GENERATORS}, yielding)

    def test_a_desk_holds_its_attributes(self):
        desk = importlib.import_module("reflows.desk").Desk()
        self.assertEqual([str(desk.stock), desk.text], ["_ #0 |0 /0 : 1 4", []])


class FolderTest(unittest.TestCase):
    def test_the_folder_holds_files_of_the_program_alone(self):
        for path in PACKAGE.rglob("*"):
            if "__pycache__" not in path.parts:
                self.assertEqual(path.suffix, ".py")
                self.assertNotIn("test", path.stem)
        self.assertTrue((PACKAGE / "__init__.py").is_file())

    def test_sizes_and_characters(self):
        for path in files():
            text = path.read_text(encoding="utf-8")
            rows = text.split("\n")
            self.assertLessEqual(len(rows) - 1, 399, path)
            self.assertLessEqual(max([len(row) for row in rows]), 120, path)
            self.assertTrue(all([char == "\n" or " " <= char <= "~" for char in text]), path)

    def test_functions_have_at_most_forty_lines(self):
        for path in files():
            for node in nodes(path):
                if isinstance(node, ast.FunctionDef):
                    self.assertLessEqual(node.end_lineno - node.lineno + 1, 40, node.name)


class RuleTest(unittest.TestCase):
    def test_imports_name_the_file_that_defines(self):
        for path in files():
            for node in nodes(path):
                if isinstance(node, ast.ImportFrom):
                    self.assertEqual(node.level, 0)
                    self.check_import(node.module, [alias.name for alias in node.names])

    def check_import(self, module, names):
        if module in LIBRARY:
            self.assertLessEqual(set(names), LIBRARY[module])
            return
        self.assertTrue(module.startswith("reflows."), module)
        tree = ast.parse((PACKAGE / (module[len("reflows."):] + ".py")).read_text(encoding="utf-8"))
        defined = set()
        for node in tree.body:
            if isinstance(node, (ast.FunctionDef, ast.ClassDef)):
                defined.add(node.name)
            if isinstance(node, ast.Assign):
                defined.add(node.targets[0].id)
        self.assertLessEqual(set(names), defined)

    def test_module_level_holds_definitions_alone(self):
        for path in files():
            body = ast.parse(path.read_text(encoding="utf-8")).body
            self.assertTrue(isinstance(body[0], ast.Expr) and isinstance(body[0].value, ast.Constant), path)
            for node in body[1:]:
                self.assertIsInstance(node, (ast.ImportFrom, ast.FunctionDef, ast.ClassDef, ast.Assign))

    def test_barred_statements_and_operators(self):
        for path in files():
            for node in nodes(path):
                self.assertNotIsInstance(node, BARRED, path)
                if isinstance(node, (ast.FunctionDef, ast.ClassDef)):
                    decorators = [ast.unparse(item).split(".")[-1] for item in node.decorator_list]
                    self.assertLessEqual(set(decorators), {"property", "staticmethod", "classmethod", "setter"})

    def test_constants(self):
        for path in files():
            for node in nodes(path):
                if isinstance(node, ast.Constant):
                    self.assertNotIsInstance(node.value, (float, complex))
                    self.assertFalse(isinstance(node.value, str) and "%" in node.value, path)

    def test_double_underscore_methods_stand_in_classes(self):
        for path in files():
            for node in nodes(path):
                if isinstance(node, ast.FunctionDef) and node.name.startswith("__"):
                    self.assertIn(node.name, DOUBLE, path)
            for node in ast.parse(path.read_text(encoding="utf-8")).body:
                self.assertFalse(getattr(node, "name", "").startswith("__"), path)

    def test_no_generator_expressions_beside_classes_that_compare(self):
        for path in files():
            for node in nodes(path):
                self.assertNotIsInstance(node, ast.GeneratorExp, path)

    def test_what_is_imported_is_used(self):
        for path in files():
            imported = []
            used = set()
            for node in nodes(path):
                if isinstance(node, ast.ImportFrom):
                    imported += [alias.name for alias in node.names]
                if isinstance(node, ast.Name):
                    used.add(node.id)
            self.assertLessEqual(set(imported), used, path)

    def test_no_two_files_import_each_other(self):
        above = {}
        for path in files():
            found = [node.module for node in nodes(path) if isinstance(node, ast.ImportFrom)]
            above["reflows." + path.stem] = [module for module in found if module.startswith("reflows.")]
        left = dict(above)
        while left:
            free = [module for module in left if not [name for name in left[module] if name in left]]
            self.assertNotEqual(free, [], left)
            for module in free:
                del left[module]

    def test_objects_are_compared_by_is_with_none_and_truths_alone(self):
        for path in files():
            for node in nodes(path):
                if isinstance(node, ast.Compare) and isinstance(node.ops[0], (ast.Is, ast.IsNot)):
                    right = node.comparators[0]
                    self.assertTrue(isinstance(right, ast.Constant) and right.value in (None, True, False), path)

    def test_no_method_has_the_name_of_an_attribute(self):
        methods, attributes = set(), set()
        for path in files():
            for node in nodes(path):
                if isinstance(node, ast.ClassDef):
                    methods |= {inner.name for inner in node.body if isinstance(inner, ast.FunctionDef)}
                if isinstance(node, ast.Attribute) and isinstance(node.ctx, ast.Store):
                    attributes.add(node.attr)
        self.assertEqual(methods & attributes, set())

    def test_names(self):
        # A doctest that has run keeps its last value as a builtin of this name.
        known = set(dir(builtins)) - {"_"}
        for path in files():
            for node in nodes(path):
                if isinstance(node, ast.Name):
                    self.assertNotIn(node.id, (known - BUILTINS) | UNUSED_NAMES, path)
                    self.assertFalse(isinstance(node.ctx, ast.Store) and node.id in known, node.id)
                if isinstance(node, ast.arg):
                    self.assertNotIn(node.arg, known | UNUSED_NAMES, path)


if __name__ == "__main__":
    unittest.main()
