"""Points 3, 10, 15 and 20: twists, and whether patterns are free."""

import copy
import random
import unittest

from eitherside.books import Book
from eitherside.errors import NoPattern
from eitherside.free import twists, unfree
from eitherside.patterns import ends, matches, steps
from eitherside.rows import counts, outcome_of
from eitherside.spans import outcomes
from eitherside.trees import is_tree, is_turn, leaves
from helper import (
    NO_PATTERNS,
    as_strings,
    bracketings,
    differ_by_one_turn,
    error_of,
    many,
    one,
    outcome_by,
    random_questions_over_tables,
    random_table,
    row_of,
    rows_between,
    rows_up_to,
    small_book,
    some,
    table_by,
    twists_by_words,
    with_bottom,
)

MOST = 4

LOOPS = many(row_of(*[row_of(*[many(name) for name in names]) for names in ("abcd", "efgh", "ijab")]))


class Twists(unittest.TestCase):
    def test_against_all_bracketings_of_short_rows(self):
        for table, pattern in random_questions_over_tables(random.Random(81), 60, "abc", 3, 3):
            found = twists(table, pattern)
            for start, end, row in rows_between(steps(pattern), MOST):
                for tree in bracketings(row):
                    for other in bracketings(row):
                        pair = (outcome_by(table, tree), outcome_by(table, other))
                        if pair[0] != pair[1] and differ_by_one_turn(tree, other):
                            self.assertIn((start, end) + pair, found)

    def test_nothing_else_is_among_them(self):
        for table, pattern in random_questions_over_tables(random.Random(82), 150, "abc", 4, 5):
            self.assertEqual(twists(table, pattern), sorted(twists_by_words(table, steps(pattern)), key=as_strings))

    def test_with_a_class_more_on_each_side(self):
        chance = random.Random(88)
        for raising in [0, 0.1] * 30:
            table = random_table(chance, "abcdef", raising)
            pattern = row_of(*[chance.choice("abcdef") for _ in range(4)])
            self.assertEqual(twists(table, pattern), sorted(twists_by_words(table, steps(pattern)), key=as_strings))

    def test_some_by_hand(self):
        table = table_by("ab", lambda left, right: "b" if left + right == "aa" else left)
        # ((a, a), a) is b and (a, (a, a)) is (a, b), which is a
        self.assertEqual(twists(table, row_of(*"aaa")), [(0, 3, "a", "b"), (0, 3, "b", "a")])
        self.assertEqual(twists(table=table, pattern=row_of("a", "a")), [])
        raising = table_by("ab", lambda left, right: "b" if left + right == "aa" else None if left == "b" else "a")
        told = [(0, 1, None, "a"), (0, 1, "a", None), (1, 1, None, "a"), (1, 1, "a", None)]
        found = twists(raising, many("a"))
        self.assertEqual([twist for twist in found if "b" not in twist], told)
        self.assertEqual(twists(small_book().table(), many(some("n", "m", "s"))), [])

    def test_they_may_be_lost_in_longer_rows(self):
        # c takes all: what differs before it is the same behind it
        table = table_by("abc", lambda left, right: "c" if "c" in left + right else "b" if left == right else left)
        pattern = row_of(*"aaa", "c")
        self.assertEqual({twist[:2] for twist in twists(table, pattern)}, {(0, 3)})
        self.assertIsNone(unfree(table, pattern))
        self.assertIsNotNone(unfree(table, row_of(*"aaa")))

    def test_both_orders_sorted_as_if_none_were_the_empty_string(self):
        for table, pattern in random_questions_over_tables(random.Random(83), 80, "abcd"):
            found = twists(table, pattern)
            self.assertEqual([as_strings(twist) for twist in found], sorted(set(map(as_strings, found))))
            for start, end, first, second in found:
                self.assertNotEqual(first, second)
                self.assertIn((start, end, second, first), found)

    def test_of_the_largest_patterns_and_tables(self):
        table = random_table(random.Random(84), "abcdefghij", 0.1)
        self.assertEqual(len(twists(table, LOOPS)), 13 * 12 * 110)


class Unfree(unittest.TestCase):
    def check(self, table, pattern):
        """Whether the pattern is free; if it is not, the trees are checked."""
        found = unfree(table, pattern)
        if found is None:
            return True
        self.assertIsInstance(found, tuple)
        tree, other = found
        self.assertTrue(is_tree(tree) and is_tree(other))
        self.assertEqual(leaves(tree), leaves(other))
        self.assertTrue(matches(pattern, leaves(tree)))
        self.assertTrue(is_turn(tree, other))
        self.assertNotEqual(outcome_of(table, tree), outcome_of(table, other))
        self.assertEqual(unfree(table, pattern), found)
        return False

    def test_exactly_for_the_patterns_that_are_not_free(self):
        found = []
        for table, pattern in random_questions_over_tables(random.Random(85), 250, "abc", 4, 5):
            stops = ends(pattern)
            twisted = [twist for twist in twists_by_words(table, steps(pattern)) if twist[0] == 0 and twist[1] in stops]
            found.append(self.check(table, pattern))
            self.assertEqual(found[-1], not twisted)
        self.assertGreater(found.count(True), 20)
        self.assertGreater(found.count(False), 20)

    def test_no_short_row_of_a_free_pattern_is_unfree(self):
        for table, pattern in random_questions_over_tables(random.Random(86), 150, "abc"):
            if self.check(table, pattern):
                for row in rows_up_to(pattern, MOST + 1):
                    self.assertEqual(len(counts(table, row)), 1)

    def test_some_by_hand(self):
        table = small_book().table()
        self.assertIsNone(unfree(table, many(some("n", "m", "s"))))
        self.assertIsNone(unfree(table=table, pattern=one("n")))
        table = table_by("ab", lambda left, right: "b" if left + right == "aa" else left)
        self.assertIsNone(unfree(table, row_of("a", "a")))
        found = unfree(table, row_of(*"aaa"))
        self.assertEqual(sorted(found, key=str), sorted(((("a", "a"), "a"), ("a", ("a", "a"))), key=str))

    def test_one_of_both_may_raise(self):
        table = table_by("ab", lambda left, right: {"aa": "b", "ba": "a"}.get(left + right))
        self.assertFalse(self.check(table, row_of(*"aaa")))
        self.assertEqual({outcome_of(table, tree) for tree in unfree(table, row_of(*"aaa"))}, {"a", None})

    def test_all_may_raise(self):
        table = table_by("ab", lambda left, right: None)
        self.assertIsNone(unfree(table, many(some("a", "b"))))

    def test_unequal_outcomes_are_not_enough(self):
        # two outcomes come, but each row has one of them
        table = table_by("ab", lambda left, right: "a" if left == right else "b")
        self.assertEqual(outcomes(table, many("b")), ["a", "b"])
        self.assertIsNone(unfree(table, many(some("a", "b"))))

    def test_long_rows_and_deep_trees(self):
        # x, a, b .. count up to i, and only (h, x) and x behind it can tell the brackets
        following = dict(zip("xabcdefgh", "abcdefghi"))
        table = table_by("xabcdefghi", lambda left, right: following.get(left, left) if right == "x" else "i")
        for pattern in (many("x"), row_of(many("x"), "x"), row_of(*"xxxx")):
            self.check(table, pattern)
        hands = "abcdefghi"
        double = dict(zip(hands, hands[1:] + hands[0]))
        table = table_by(hands, lambda left, right: double[left] if left == right else "a" if left > right else None)
        elevens = row_of(row_of(*"aaaa"), row_of(*"aaaa"), row_of(*"aaa"))
        for pattern in (row_of(many(elevens), "a"), many(elevens), many("a")):
            self.assertFalse(self.check(table, pattern))

    def test_trees_that_can_be_walked_through(self):
        # (i, i) is h, (h, h) is g and so on: any three spans with a turn might have any number of leaves
        double = dict(zip("ihgfedcba", "hgfedcbai"))
        table = table_by("abcdefghi", lambda left, right: double[left] if left == right else None)
        tree, _ = unfree(table, many("i"))
        self.assertEqual(len(leaves(tree)), 4)

    def test_of_the_largest_patterns_and_tables(self):
        chance = random.Random(87)
        for raising in (0, 0.1, 0.5):
            self.assertFalse(self.check(random_table(chance, "abcdefghij", raising), LOOPS))
        for rule in (max, min, lambda left, right: left, lambda left, right: right, lambda left, right: None):
            self.assertIsNone(unfree(table_by("abcdefghij", rule), LOOPS))
        # the last class of a row takes all, so brackets before it do not matter
        inner = random_table(chance, "abcdefghi", 0)
        table = table_by("abcdefghij", lambda left, right: "j" if "j" in left + right else inner[left, right])
        self.assertIsNone(unfree(table, row_of(many(some(*"abc")), "j", many(some(*"def")))))
        self.assertFalse(self.check(table, row_of(many(some(*"abc")), many(some(*"def")))))


class NoPatterns(unittest.TestCase):
    def test_values_that_are_no_patterns_with_classes_of_the_table(self):
        table = small_book().table()
        others = [one("a"), many("a"), some("n", "a"), row_of("n", "m", many(some("s", "x"))), "n"]
        for value in NO_PATTERNS + others + [with_bottom(3000, "n", "left")]:
            for ask in (twists, unfree):
                self.assertIs(error_of(NoPattern, lambda: ask(table, value)).pattern, value)

    def test_a_table_without_classes(self):
        for ask in (twists, unfree):
            self.assertEqual(error_of(NoPattern, lambda: ask(Book().table(), one("n"))).pattern, one("n"))


class General(unittest.TestCase):
    def test_nothing_is_kept_or_changed(self):
        table = table_by("ab", lambda left, right: "b" if left + right == "aa" else left)
        pattern = many(some("a", "b"))
        before = copy.deepcopy((table, pattern))
        told = twists(table, pattern)
        twists(table, pattern).clear()
        self.assertEqual(twists(table, pattern), told)
        unfree(table, pattern)
        self.assertEqual((table, pattern), before)


if __name__ == "__main__":
    unittest.main()
