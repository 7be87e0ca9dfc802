"""Points [8] and [11]: the exception classes."""

import unittest

import reflows.errors
from reflows.errors import AbsentError, ReflowError, StateError

BASES = {ReflowError: ValueError, AbsentError: KeyError, StateError: LookupError}

VALUE_CLASSES = [
    "InvalidMark", "InvalidMarks", "InvalidWords", "InvalidText", "InvalidStep", "InvalidChain", "InvalidStock",
    "InvalidInteger", "InvalidState", "InvalidRow", "InvalidChange", "InvalidName", "InvalidLine", "InvalidLines",
    "NotOver",
]

# For each class its base and the names of its fields.
CLASSES = {name: (ReflowError, ["value"]) for name in VALUE_CLASSES}
CLASSES.update({
    "InvalidPage": (ReflowError, ["line"]),
    "TooMany": (ReflowError, ["count"]),
    "NoStep": (AbsentError, ["index"]),
    "NoLetter": (AbsentError, ["value"]),
    "NoInput": (AbsentError, ["value"]),
    "NoChain": (AbsentError, ["name"]),
    "NoStock": (StateError, []),
    "NothingToUndo": (StateError, []),
    "NothingToRedo": (StateError, []),
})


class BaseTest(unittest.TestCase):
    def test_each_base_is_directly_under_its_own_error(self):
        for base, above in BASES.items():
            self.assertEqual(base.__bases__, (above,))

    def test_a_base_is_made_with_one_string(self):
        for base in BASES:
            self.assertEqual(base("a word").args, ("a word",))

    def test_a_base_is_caught_as_the_error_above_it_only(self):
        for base, above in BASES.items():
            with self.assertRaises(above):
                raise base("a word")
        self.assertFalse(issubclass(ReflowError, LookupError))
        self.assertFalse(issubclass(StateError, (ValueError, KeyError)))


class ClassTest(unittest.TestCase):
    def test_all_classes_are_there_and_no_others(self):
        found = [name for name in vars(reflows.errors) if not name.startswith("_")]
        expected = list(CLASSES) + [base.__name__ for base in BASES]
        self.assertEqual(sorted(found), sorted(expected))

    def test_each_class_is_directly_under_one_base(self):
        for name, (base, _) in CLASSES.items():
            self.assertEqual(getattr(reflows.errors, name).__bases__, (base,), name)

    def test_the_fields_are_the_very_objects(self):
        values = [None, True, 7, 10 ** 30, "", "a b", [], ["a", [1]], (), ("#0", "a"), {"a": 1}, ReflowError("a")]
        for name, (_, fields) in CLASSES.items():
            if fields:
                for value in values:
                    error = getattr(reflows.errors, name)(value)
                    self.assertIs(getattr(error, fields[0]), value, name)

    def test_there_is_one_argument_for_each_field(self):
        for name, (_, fields) in CLASSES.items():
            made = getattr(reflows.errors, name)
            made(*[7 for _ in fields])
            with self.assertRaises(TypeError):
                made(*[7 for _ in fields], 8)
            if fields:
                with self.assertRaises(TypeError):
                    made()

    def test_no_other_fields_are_set(self):
        for name, (_, fields) in CLASSES.items():
            error = getattr(reflows.errors, name)(*[7 for _ in fields])
            self.assertEqual(sorted(vars(error)), fields, name)

    def test_a_class_is_caught_by_its_base_and_by_no_other_one(self):
        for name, (base, fields) in CLASSES.items():
            error = getattr(reflows.errors, name)(*[7 for _ in fields])
            self.assertEqual([known for known in BASES if isinstance(error, known)], [base], name)
            with self.assertRaises(base):
                raise error

    def test_an_exception_can_be_shown(self):
        for name, (_, fields) in CLASSES.items():
            error = getattr(reflows.errors, name)(*[[7] for _ in fields])
            self.assertIsInstance(str(error), str)
            self.assertIsInstance(repr(error), str)


if __name__ == "__main__":
    unittest.main()
