"""The error classes: their bases, their parameters and their attributes (points 2 and 16)."""

import inspect
import unittest

from putinside import errors

NAMED = [
    (ValueError, "Duplicate", ["size"]),
    (ValueError, "NotFull", ["many"]),
    (ValueError, "OtherNesting", []),
    (ValueError, "BadText", ["text"]),
    (ValueError, "BadLine", ["number"]),
    (LookupError, "NoBox", ["place"]),
    (LookupError, "NoGap", ["gap"]),
    (LookupError, "NoIndex", ["index"]),
    (LookupError, "NoNumber", ["number"]),
    (LookupError, "NoState", ["many"]),
    (RuntimeError, "Closed", ["gap"]),
    (RuntimeError, "Outer", ["place"]),
    (RuntimeError, "Stuck", ["place"]),
    (RuntimeError, "Blocked", ["index"]),
    (OverflowError, "TooMany", ["many"]),
    (OverflowError, "Full", ["many"]),
]

VALUES = [0, 4, -1, -7, 10 ** 9, 10 ** 5000, -10 ** 5000]
TEXTS = ["", ". . 0 .", " ", "a{b}", "'\"\\\n", "x" * 5000]


def values_of(word):
    return TEXTS if word == "text" else VALUES


def with_one_value():
    return [(getattr(errors, name), words[0]) for _, name, words in NAMED if words]


class BasesTest(unittest.TestCase):
    def test_file_defines_these_sixteen_and_no_others(self):
        defined = [name for name, _ in inspect.getmembers(errors, inspect.isclass)]
        self.assertEqual(sorted(defined), sorted(name for _, name, _ in NAMED))
        self.assertEqual(len(defined), 16)
        for _, name, _ in NAMED:
            self.assertEqual(getattr(errors, name).__module__, "putinside.errors")
            self.assertEqual(getattr(errors, name).__name__, name)

    def test_only_base_is_the_builtin_class(self):
        for base, name, _ in NAMED:
            with self.subTest(name):
                self.assertEqual(getattr(errors, name).__bases__, (base,))

    def test_no_other_class_of_the_package_is_above(self):
        for _, name, _ in NAMED:
            above = getattr(errors, name).__mro__[1:]
            with self.subTest(name):
                self.assertEqual([c for c in above if c.__module__ != "builtins"], [])

    def test_caught_as_its_base_and_as_no_other(self):
        bases = [ValueError, LookupError, RuntimeError, OverflowError]
        for base, name, words in NAMED:
            error = getattr(errors, name)(*["1" for _ in words])
            with self.subTest(name):
                self.assertEqual([b for b in bases if isinstance(error, b)], [base])


class ValuesTest(unittest.TestCase):
    def test_names_of_the_parameters(self):
        for _, name, words in NAMED:
            if words:
                with self.subTest(name):
                    self.assertEqual(list(inspect.signature(getattr(errors, name)).parameters), words)

    def test_value_by_position(self):
        for error, word in with_one_value():
            for value in values_of(word):
                with self.subTest(error.__name__):
                    self.assertEqual(vars(error(value)), {word: value})

    def test_value_by_name(self):
        for error, word in with_one_value():
            for value in values_of(word):
                with self.subTest(error.__name__):
                    self.assertEqual(vars(error(**{word: value})), {word: value})

    def test_raised_and_caught_with_the_value(self):
        for error, word in with_one_value():
            for value in values_of(word):
                with self.subTest(error.__name__):
                    with self.assertRaises(error) as caught:
                        raise error(value)
                    self.assertEqual(getattr(caught.exception, word), value)

    def test_other_nesting_has_no_value(self):
        error = errors.OtherNesting()
        self.assertEqual(vars(error), {})
        with self.assertRaises(errors.OtherNesting):
            raise error

    def test_wrong_numbers_of_values(self):
        for error, word in with_one_value():
            with self.subTest(error.__name__):
                self.assertRaises(TypeError, error)
                self.assertRaises(TypeError, error, 1, 2)
                self.assertRaises(TypeError, error, wrong=1)

    def test_two_errors_keep_their_own_values(self):
        for error, word in with_one_value():
            one, other = error("1"), error("2")
            self.assertEqual((getattr(one, word), getattr(other, word)), ("1", "2"))


if __name__ == "__main__":
    unittest.main()
