"""The table of the errors, and what point 2 says of errors."""

import inspect
import unittest

from eitherside import errors

# class, built-in class, fields
TABLE = [
    ("NoBook", ValueError, ["position"]),
    ("NoClass", KeyError, ["name"]),
    ("NoRow", ValueError, ["row"]),
    ("NoTree", ValueError, ["tree"]),
    ("NoPattern", ValueError, ["pattern"]),
    ("NoOutcome", LookupError, ["outcome"]),
    ("NoRank", IndexError, ["rank"]),
    ("NoChange", ArithmeticError, ["change"]),
    ("NoClaim", ValueError, ["claim"]),
    ("NoText", ValueError, ["position"]),
    ("NoCommand", TypeError, []),
    ("NothingToUndo", RuntimeError, []),
]


def deep_value(levels):
    value = "a"
    for _ in range(levels):
        value = (value, 7)
    return value


class TheErrors(unittest.TestCase):
    def test_each_class_derives_directly_from_the_one_shown(self):
        for name, base, _ in TABLE:
            with self.subTest(name):
                self.assertEqual(getattr(errors, name).__bases__, (base,))
                self.assertEqual(getattr(errors, name).__module__, "eitherside.errors")

    def test_there_are_these_twelve(self):
        own = [name for name, value in vars(errors).items() if inspect.isclass(value)]
        self.assertEqual(sorted(own), sorted(name for name, _, _ in TABLE))

    def test_a_field_may_be_any_value_and_is_kept_as_it_is(self):
        values = [None, True, 0, -1, 10 ** 39, "", "a b\n", [], [1, ["x"]], (), ("a", (None,)), deep_value(3000)]
        for name, _, fields in TABLE:
            for field in fields:
                for value in values:
                    by_position = getattr(errors, name)(value)
                    by_name = getattr(errors, name)(**{field: value})
                    self.assertIs(getattr(by_position, field), value)
                    self.assertIs(getattr(by_name, field), value)

    def test_the_fields_have_these_names_and_this_order(self):
        for name, _, fields in TABLE:
            with self.subTest(name):
                told = list(inspect.signature(getattr(errors, name)).parameters)
                self.assertEqual(told, fields)

    def test_each_field_is_needed(self):
        for name, _, fields in TABLE:
            if fields:
                with self.subTest(name), self.assertRaises(TypeError):
                    getattr(errors, name)()

    def test_they_are_raised_and_caught_by_name_and_by_base(self):
        for name, base, fields in TABLE:
            own = getattr(errors, name)
            for caught in (own, base):
                with self.subTest(name), self.assertRaises(caught):
                    raise own(*fields)

    def test_an_error_about_a_deep_value_can_be_written(self):
        for name, _, fields in TABLE:
            for _ in fields:
                error = getattr(errors, name)(deep_value(5000))
                self.assertIsInstance(str(error), str)
                self.assertIsInstance(repr(error), str)

    def test_two_errors_share_no_state(self):
        first, second = errors.NoClass("a"), errors.NoClass("b")
        first.name = "c"
        self.assertEqual(second.name, "b")


if __name__ == "__main__":
    unittest.main()
