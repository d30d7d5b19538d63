"""Points 3, 13 and 16: closures, and sets whose sums depend on the order or on the brackets."""

import copy
import itertools
import random
import unittest

from eitherside.books import Book
from eitherside.errors import NoClass
from eitherside.orders import closure, disorder
from eitherside.rows import outcome_of
from eitherside.tables import Table
from eitherside.trees import is_tree, leaves
from helper import (
    NO_NAMES,
    bracketings,
    error_of,
    in_order,
    is_orderless_by_sums,
    outcome_by,
    random_orderly_table,
    random_table,
    small_book,
    sums_again_and_again,
    table_by,
    with_bottom,
)

MOST = 4


def outcomes_of_leaves(table, row):
    """The outcomes of all trees with these leaves, in any order."""
    return {outcome_by(table, tree) for order in set(itertools.permutations(row)) for tree in bracketings(order)}


def is_orderless_in_short(table, classes):
    """Whether no four leaves or fewer show the contrary."""
    return all(
        len(outcomes_of_leaves(table, row)) == 1
        for size in range(2, MOST + 1)
        for row in itertools.combinations_with_replacement(sorted(classes), size)
    )


def questions(chance, number):
    for _ in range(number):
        names = "abcd"[: chance.randrange(1, 5)]
        table = random_table(chance, names, chance.choice([0, 0.2, 0.6]))
        if chance.random() < 0.5:
            table = random_orderly_table(chance, names)
        yield table, chance.sample(names, chance.randrange(1, len(names) + 1))


class Closure(unittest.TestCase):
    def test_against_sums_made_again_and_again(self):
        for table, classes in questions(random.Random(101), 300):
            self.assertEqual(closure(table, classes), in_order(sums_again_and_again(table, classes)))

    def test_against_all_trees_with_few_leaves(self):
        for table, classes in questions(random.Random(102), 60):
            found = closure(table, classes)
            for size in range(1, MOST + 1):
                for row in itertools.product(classes, repeat=size):
                    for tree in bracketings(row):
                        self.assertIn(outcome_by(table, tree), found)

    def test_some_by_hand(self):
        table = small_book().table()
        self.assertEqual(closure(table, ["n"]), ["n"])
        self.assertEqual(closure(table, ["s"]), ["s", None])
        self.assertEqual(closure(table=table, classes=("n", "m")), ["m", "n"])
        self.assertEqual(closure(table, ("s", "n", "m")), ["m", "n", "s", None])
        self.assertEqual(closure(table, ["n", "n", "n"]), ["n"])
        self.assertEqual(closure(table, ("s", "s")), ["s", None])

    def test_none_comes_last(self):
        table = table_by("az", lambda left, right: None)
        self.assertEqual(closure(table, ["z", "a"]), ["a", "z", None])

    def test_what_needs_many_leaves(self):
        names = "abcdefghij"
        following = dict(zip(names, names[1:]))
        table = table_by(names, lambda left, right: following.get(left, left) if left == right else None)
        self.assertEqual(closure(table, ["a"]), list(names) + [None])
        self.assertEqual(closure(table, ["d"]), list(names[3:]) + [None])


class Disorder(unittest.TestCase):
    def check(self, table, classes):
        """Whether the set is orderless; if it is not, the trees are checked."""
        found = disorder(table, classes)
        if found is None:
            return True
        self.assertIsInstance(found, tuple)
        tree, other = found
        self.assertTrue(is_tree(tree) and is_tree(other))
        self.assertEqual(sorted(leaves(tree)), sorted(leaves(other)))
        self.assertLessEqual(set(leaves(tree)), set(classes))
        self.assertNotEqual(outcome_of(table, tree), outcome_of(table, other))
        self.assertEqual(disorder(table, classes), found)
        return False

    def test_against_all_trees_with_few_leaves(self):
        found = []
        for table, classes in questions(random.Random(103), 150):
            found.append(self.check(table, classes))
            short = is_orderless_in_short(table, classes)
            if found[-1]:
                self.assertTrue(short)
            if not short:
                self.assertFalse(found[-1])
        self.assertGreater(found.count(True), 8)
        self.assertGreater(found.count(False), 8)

    def test_against_all_sums_of_the_closure(self):
        for table, classes in questions(random.Random(104), 400):
            self.assertEqual(self.check(table, classes), is_orderless_by_sums(table, classes))

    def test_some_by_hand(self):
        table = small_book().table()
        self.assertIsNone(disorder(table, ["n"]))
        self.assertIsNone(disorder(table=table, classes=("m", "n")))
        # two leaves are in two orders only
        left = table_by("ab", lambda left, right: left)
        self.assertIn(disorder(left, ["a", "b"]), ((("a", "b"), ("b", "a")), (("b", "a"), ("a", "b"))))
        self.assertIsNone(disorder(left, ["a"]))
        self.assertIsNone(disorder(left, ["b", "b"]))

    def test_none_is_an_outcome(self):
        table = table_by("ab", lambda left, right: "a" if left + right == "ab" else None)
        tree, other = disorder(table, ["a", "b"])
        self.assertEqual({outcome_of(table, tree), outcome_of(table, other)}, {"a", None})
        nothing = table_by("ab", lambda left, right: None)
        self.assertIsNone(disorder(nothing, ["a", "b"]))

    def test_the_brackets_alone_may_matter(self):
        # ((a, a), b) is a and (a, (a, b)) is b
        table = table_by("ab", lambda left, right: "b" if left + right == "aa" else "a")
        for left, right in itertools.product("ab", repeat=2):
            self.assertEqual(table[left, right], table[right, left])
        self.assertFalse(self.check(table, ["a"]))

    def test_classes_outside_of_the_closure_do_not_matter(self):
        table = table_by("abc", lambda left, right: left if "c" in left + right else max(left, right))
        self.assertIsNone(disorder(table, ["a", "b"]))
        self.assertFalse(self.check(table, ["a", "c"]))

    def test_outcomes_that_are_not_in_the_set_matter(self):
        table = table_by("abc", lambda left, right: "b" if left + right == "aa" else "c")
        self.assertIsNone(disorder(table, ["a"]))
        self.assertFalse(self.check(table.changed(("c", "a", "a")), ["a"]))

    def test_of_any_size(self):
        # up to ten: sums of that many a's are alike, and only j can tell the sides
        names = "abcdefghij"
        number = {name: at for at, name in enumerate(names, 1)}
        table = table_by(names, lambda left, right: names[min(number[left] + number[right], 10) - 1])
        self.assertIsNone(disorder(table, ["a"]))
        self.assertFalse(self.check(table.changed(("j", "a", "i")), ["a"]))
        self.assertEqual(len(leaves(disorder(table.changed(("j", "a", "i")), ["a"])[0])), 11)
        following = dict(zip(names, names[1:]))
        double = table_by(names, lambda left, right: following.get(left) if left == right else None)
        self.assertFalse(self.check(double, ["a"]))
        self.assertIsNone(disorder(double, ["j"]))
        self.assertFalse(self.check(double, list(names)))

    def test_of_full_tables(self):
        chance = random.Random(105)
        for classes in ("abcdefghij", "a", "abc"):
            table = random_table(chance, "abcdefghij", 0.1)
            self.assertEqual(self.check(table, list(classes)), is_orderless_by_sums(table, classes))
            for rule in (max, min, lambda left, right: "e", lambda left, right: None):
                self.assertIsNone(disorder(table_by("abcdefghij", rule), list(classes)))

    def test_the_same_one_each_time(self):
        for table, classes in questions(random.Random(106), 40):
            names = tuple(table.classes())
            again = Table(names, {pair: table[pair] for pair in itertools.product(names[::-1], repeat=2)})
            self.assertEqual(disorder(table, classes), disorder(again, classes))


class NoClasses(unittest.TestCase):
    def test_the_first_value_that_is_no_class(self):
        table = small_book().table()
        for value in NO_NAMES + ["a", "mn", {"n": 1}, with_bottom(3000, "n", "left")]:
            for ask in (closure, disorder):
                for kind in (list, tuple):
                    classes = kind(["n", value, "zz"])
                    self.assertIs(error_of(NoClass, lambda: ask(table, classes)).name, value)
                    self.assertIs(error_of(NoClass, lambda: ask(table, kind([value]))).name, value)

    def test_a_table_without_classes(self):
        for ask in (closure, disorder):
            self.assertEqual(error_of(NoClass, lambda: ask(Book().table(), ["n"])).name, "n")


class General(unittest.TestCase):
    def test_nothing_is_kept_or_changed(self):
        table = small_book().table()
        classes = ["s", "n", "s", "m"]
        before = copy.deepcopy((table, classes))
        told = closure(table, classes)
        closure(table, classes).clear()
        self.assertEqual(closure(table, classes), told)
        disorder(table, classes)
        self.assertEqual((table, classes), before)


if __name__ == "__main__":
    unittest.main()
