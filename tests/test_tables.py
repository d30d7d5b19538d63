"""Point 13: tables, what they show, and their changes."""

import itertools
import random
import unittest

from eitherside.books import Book
from eitherside.errors import NoChange, NoClass
from eitherside.tables import Table
from helper import NO_NAMES, error_of, random_table, small_book, table_by, with_bottom

SUMS = {("a", "a"): "a", ("a", "b"): "b", ("b", "a"): None, ("b", "b"): "a"}


def table_of_two():
    return Table(("a", "b"), SUMS)


class TheTable(unittest.TestCase):
    def test_it_is_asked(self):
        table = table_of_two()
        for (left, right), outcome in SUMS.items():
            self.assertEqual(table.sum_of(left, right), outcome)
            self.assertEqual(table.sum_of(left=left, right=right), outcome)
            self.assertEqual(table[left, right], outcome)
        self.assertEqual(table.classes(), ["a", "b"])

    def test_by_the_names_of_the_arguments(self):
        self.assertEqual(Table(classes=("a", "b"), sums=SUMS), table_of_two())

    def test_no_class_for_the_first_value_that_is_none(self):
        table = table_of_two()
        for value in NO_NAMES + ["c", "ab", ("a", "b"), with_bottom(2000, "a", "left")]:
            for left, right in [(value, "a"), ("b", value), (value, "zz"), (value, None)]:
                self.assertIs(error_of(NoClass, lambda: table.sum_of(left, right)).name, value)
                self.assertIs(error_of(NoClass, lambda: table[left, right]).name, value)
        self.assertEqual(error_of(NoClass, lambda: Table((), {})["a", "b"]).name, "a")

    def test_a_table_without_classes(self):
        table = Table((), {})
        self.assertEqual((table.classes(), len(table), repr(table)), ([], 0, "Table()"))
        self.assertEqual(table, Table((), {}))
        self.assertEqual(table.changed(), table)

    def test_length_is_the_number_of_pairs_that_do_not_raise(self):
        self.assertEqual(len(table_of_two()), 3)
        self.assertEqual(len(table_by("abc", lambda left, right: None)), 0)
        self.assertEqual(len(table_by("abcdefghij", lambda left, right: left)), 100)
        chance = random.Random(1)
        for _ in range(20):
            table = random_table(chance, "abcd", 0.4)
            pairs = itertools.product("abcd", repeat=2)
            self.assertEqual(len(table), len([pair for pair in pairs if table[pair] is not None]))

    def test_repr_has_the_classes_in_ascending_order(self):
        self.assertEqual(repr(small_book().table()), "Table(m, n, s)")
        self.assertEqual(repr(table_by("a", lambda left, right: None)), "Table(a)")

    def test_equal_with_equal_classes_and_sums(self):
        self.assertEqual(table_of_two(), Table(("a", "b"), dict(reversed(SUMS.items()))))
        self.assertFalse(table_of_two() != table_of_two())
        for other in (
            Table(("a", "b"), {**SUMS, ("b", "a"): "a"}),
            Table(("a", "b"), {**SUMS, ("a", "b"): None}),
            Table(("a",), {("a", "a"): "a"}),
            Table((), {}),
        ):
            self.assertNotEqual(table_of_two(), other)
            self.assertFalse(table_of_two() == other)
        # the same pairs are answered, but the classes are not the same
        raising = [table_by(names, lambda left, right: None) for names in ("ab", "a", "ac", "")]
        for one, two in itertools.combinations(raising, 2):
            self.assertNotEqual(one, two)

    def test_a_table_is_equal_to_no_value_of_another_kind(self):
        table = table_of_two()
        for value in NO_NAMES + [("a", "b"), ["a", "b"], SUMS, repr(table), len(table), small_book()]:
            self.assertFalse(table == value)
            self.assertFalse(value == table)
            self.assertTrue(table != value)
        for value in (None, 0, False, "", [], (), {}, Book()):
            self.assertFalse(Table((), {}) == value)

    def test_nothing_that_is_passed_or_returned_is_kept(self):
        sums = dict(SUMS)
        table = Table(("a", "b"), sums)
        sums["a", "a"] = "b"
        sums.clear()
        table.classes().append("c")
        table.classes().clear()
        self.assertEqual(table, table_of_two())
        self.assertEqual(table.classes(), ["a", "b"])
        before = dict(SUMS)
        table_of_two().changed(("a", "a", "b"))
        self.assertEqual(SUMS, before)


class Changed(unittest.TestCase):
    def test_no_change_and_one(self):
        table = table_of_two()
        self.assertEqual(table.changed(), table)
        self.assertIsNot(table.changed(), table)
        changed = table.changed(("b", "a", "b"))
        self.assertEqual(changed, Table(("a", "b"), {**SUMS, ("b", "a"): "b"}))
        self.assertEqual(len(changed), 4)
        self.assertIsNone(table["b", "a"])
        self.assertEqual(table, table_of_two())

    def test_one_after_the_other(self):
        changed = table_of_two().changed(("a", "a", "b"), ("b", "b", "b"), ("a", "a", "a"), ("b", "a", "a"))
        self.assertEqual(changed, Table(("a", "b"), {**SUMS, ("a", "a"): "a", ("b", "b"): "b", ("b", "a"): "a"}))
        self.assertEqual(table_of_two().changed(("a", "a", "a"), ("a", "a", "b"))["a", "a"], "b")

    def test_a_change_that_changes_nothing(self):
        self.assertEqual(table_of_two().changed(("a", "a", "a")), table_of_two())

    def test_the_first_value_that_is_no_change(self):
        table = table_of_two()
        good = ("a", "a", "b")
        values = NO_NAMES + [
            "aab", ("a", "a"), ("a", "a", "b", "b"), ["a", "a", "b"], ("a", "a", None), ("a", None, "a"),
            (None, "a", "a"),
            ("a", "a", "c"), ("a", "c", "a"), ("c", "a", "a"), ("a", "a", "self"), ("a", "a", ("b",)),
            ("a", ["a"], "b"),
            (("a", "a"), "b", "a"), ("a", "a", True), ("a", "a", with_bottom(2000, "a", "left")), {},
        ]
        for value in values:
            for changes in ([value], [good, value], [good, good, value, good], [value, "other"], [value, None]):
                self.assertIs(error_of(NoChange, lambda: table.changed(*changes)).change, value)
        self.assertEqual(table, table_of_two())
        self.assertEqual(error_of(NoChange, lambda: Table((), {}).changed(good)).change, good)


if __name__ == "__main__":
    unittest.main()
