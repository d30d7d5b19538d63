"""Points 3, 11, 12, 13 and 15: the spans, and the outcomes that come in patterns."""

import copy
import itertools
import random
import unittest

from eitherside.books import Book
from eitherside.errors import NoPattern
from eitherside.patterns import ends, is_pattern, matches, steps
from eitherside.rows import outcome_of
from eitherside.spans import example, outcomes, parting, spans
from eitherside.tables import Table
from eitherside.trees import is_tree, leaves
from helper import (
    NO_NAMES,
    NO_PATTERNS,
    as_strings,
    bracketings,
    error_of,
    in_order,
    many,
    one,
    outcome_by,
    random_questions_over_tables,
    random_table,
    row_of,
    rows_between,
    rows_up_to,
    small_book,
    some,
    spans_by_words,
    table_by,
    with_bottom,
)

MOST = 4


def doubling(hands="abcdefgh"):
    """a + a is b, b + b is c and so on; all else raises."""
    following = dict(zip(hands, hands[1:]))
    return table_by(hands, lambda left, right: following.get(left) if left == right else None)


def counter(hands="abcdefgh", first="a"):
    """x + x is a, a + x is b and so on; the last hand comes to the first one, or to another; all else raises."""
    following = dict(zip("x" + hands, hands + first))
    return table_by("x" + hands, lambda left, right: following[left] if right == "x" else None)


class Spans(unittest.TestCase):
    def test_against_all_bracketings_of_short_rows(self):
        for table, pattern in random_questions_over_tables(random.Random(71), 80, "abc", 3, 4):
            found = spans(table, pattern)
            for start, end, row in rows_between(steps(pattern), MOST):
                for tree in bracketings(row):
                    self.assertIn((start, end, outcome_by(table, tree)), found)

    def test_nothing_else_is_among_them(self):
        for table, pattern in random_questions_over_tables(random.Random(72), 120, "abcd"):
            expected = sorted(spans_by_words(table, steps(pattern)), key=as_strings)
            self.assertEqual(spans(table, pattern), expected)

    def test_some_by_hand(self):
        table = small_book().table()
        self.assertEqual(spans(table, one("s")), [(0, 1, "s")])
        told = [(0, 1, None), (0, 1, "s"), (1, 1, None), (1, 1, "s")]
        self.assertEqual(spans(table=table, pattern=many("s")), told)
        self.assertEqual(spans(table, row_of("n", "m")), [(0, 1, "n"), (0, 2, "m"), (1, 2, "m")])
        self.assertEqual(spans(table, row_of("m", "s")), [(0, 1, "m"), (0, 2, None), (1, 2, "s")])
        self.assertEqual(spans(table, some("s", "n")), [(0, 1, "s"), (0, 2, "n")])

    def test_none_is_sorted_as_if_it_were_the_empty_string(self):
        for table, pattern in random_questions_over_tables(random.Random(73), 60, "abcd"):
            found = spans(table, pattern)
            self.assertEqual([as_strings(span) for span in found], sorted(set(map(as_strings, found))))

    def test_of_the_largest_patterns_and_tables(self):
        chance = random.Random(74)
        parts = [some(*"abcd"), some(*"efgh"), some(*"ijab")]
        loops = [row_of(*[many(name) for name in names]) for names in ("abcd", "efgh", "ijab")]
        for pattern in (many(some(*parts)), many(row_of(*loops))):
            self.assertTrue(is_pattern(pattern))
            table = random_table(chance, "abcdefghij", 0.1)
            found = spans(table, pattern)
            self.assertEqual(len(found), 13 * 12 * 11)


class Outcomes(unittest.TestCase):
    def test_against_all_bracketings_of_short_rows(self):
        for table, pattern in random_questions_over_tables(random.Random(75), 100, "abc"):
            found = outcomes(table, pattern)
            self.assertEqual(found, in_order(found))
            short = {outcome_by(table, tree) for row in rows_up_to(pattern, MOST) for tree in bracketings(row)}
            self.assertEqual(short - set(found), set())
            for name in table.classes() + [None]:
                self.assertEqual(name in found, example_is_right(self, table, pattern, name))

    def test_some_by_hand(self):
        table = small_book().table()
        self.assertEqual(outcomes(table, many("n")), ["n"])
        self.assertEqual(outcomes(table, many("s")), ["s", None])
        self.assertEqual(outcomes(table, row_of("s", many("s"))), [None])
        self.assertEqual(outcomes(table=table, pattern=many(some("n", "m"))), ["m", "n"])
        self.assertEqual(outcomes(table, many(some("s", "m"))), ["m", "s", None])
        self.assertEqual(outcomes(table, row_of("n", many("m"))), ["m"])

    def test_the_brackets_count_and_not_only_the_left_ones(self):
        # ((a, a), a) raises, (a, (a, a)) does not
        table = table_by("abc", lambda left, right: {"aa": "b", "ab": "c"}.get(left + right))
        self.assertEqual(outcomes(table, row_of("a", "a", "a")), ["c", None])

    def test_outcomes_of_long_rows_only(self):
        table = doubling("abcdefghi")
        self.assertEqual(outcomes(table, many("a")), list("abcdefghi") + [None])
        self.assertEqual(len(leaves(example(table, many("a"), "i"))), 256)
        # rows of three a's and their multiples never have a power of two
        self.assertEqual(outcomes(table, many(row_of(*"aaa"))), [None])


def example_is_right(test, table, pattern, outcome):
    """Whether there is an example, which is checked."""
    tree = example(table, pattern, outcome)
    if tree is None:
        return False
    test.assertTrue(is_tree(tree))
    test.assertTrue(matches(pattern, leaves(tree)))
    test.assertEqual(outcome_of(table, tree), outcome)
    return True


class Example(unittest.TestCase):
    def test_for_each_outcome_that_comes_and_for_no_other(self):
        for table, pattern in random_questions_over_tables(random.Random(76), 200, "abcd"):
            stops = ends(pattern)
            come = {span[2] for span in spans_by_words(table, steps(pattern)) if span[0] == 0 and span[1] in stops}
            for name in table.classes() + [None]:
                self.assertEqual(example_is_right(self, table, pattern, name), name in come)

    def test_some_by_hand(self):
        table = small_book().table()
        self.assertEqual(example(table, one("s"), "s"), "s")
        self.assertEqual(example(table=table, pattern=row_of("n", "m"), outcome="m"), ("n", "m"))
        self.assertEqual(example(table, many("s"), None), ("s", "s"))
        self.assertIsNone(example(table, many("n"), None))
        self.assertIsNone(example(table, many("n"), "m"))

    def test_any_value_as_outcome(self):
        table = small_book().table()
        deep = with_bottom(3000, "n", "left")
        for value in NO_NAMES + ["m", "s", "zz", ("n",), ["n"], (("n", "n"), "n"), {}, deep, (None,), [None]]:
            if value is not None:
                self.assertIsNone(example(table, many("n"), value))
        self.assertIsNone(example(table, many("n"), None))

    def test_long_rows_and_deep_trees(self):
        pattern = row_of(many(row_of(row_of(*"xxxx"), row_of(*"xxx"))), "x")
        for hand in "abcdefgh":
            tree = example(counter(), pattern, hand)
            self.assertTrue(example_is_right(self, counter(), pattern, hand))
            # the hand tells the number of classes: two for a, three for b
            self.assertEqual(len(leaves(tree)) % 8, (2 + "abcdefgh".index(hand)) % 8)
            self.assertEqual(len(leaves(tree)) % 7, 1)
        table = counter("abcdefghi")
        self.assertEqual(max(len(leaves(example(table, pattern, hand))) for hand in "abcdefghi"), 64)

    def test_the_same_one_each_time(self):
        for table, pattern in random_questions_over_tables(random.Random(77), 30, "abcd"):
            names = tuple(table.classes())
            again = Table(names, {pair: table[pair] for pair in itertools.product(names[::-1], repeat=2)})
            for name in table.classes() + [None]:
                self.assertEqual(example(table, pattern, name), example(again, pattern, name))

    def test_a_tree_that_can_be_walked_through(self):
        # with a wrong choice of parts this tree would have more leaves than any computer could count
        hands = "abcdefghi"
        following = dict(zip(hands, hands[1:] + hands[0]))
        table = table_by(hands, lambda left, right: following[left] if left == right or right == "a" else None)
        elevens = row_of(row_of(*"aaaa"), row_of(*"aaaa"), row_of(*"aaa"))
        for pattern in (row_of(many(elevens), "a"), many(elevens)):
            for name in outcomes(table, pattern):
                self.assertTrue(example_is_right(self, table, pattern, name))


class Parting(unittest.TestCase):
    def check(self, table, other, pattern):
        tree = parting(table, other, pattern)
        if tree is not None:
            self.assertTrue(matches(pattern, leaves(tree)))
            self.assertNotEqual(outcome_of(table, tree), outcome_of(other, tree))
        short = [
            tree
            for row in rows_up_to(pattern, MOST)
            for tree in bracketings(row)
            if outcome_by(table, tree) != outcome_by(other, tree)
        ]
        if short:
            self.assertIsNotNone(tree)
        self.assertEqual(tree is None, not parted_by_words(table, other, pattern))
        return tree is None

    def test_random_tables(self):
        chance = random.Random(78)
        found = []
        for table, pattern in random_questions_over_tables(chance, 100, "abc"):
            other = random_table(chance, table.classes())
            names = table.classes()
            changed = table.changed((chance.choice(names), chance.choice(names), chance.choice(names)))
            found.append(self.check(table, other, pattern))
            found.append(self.check(table, changed, pattern))
        self.assertGreater(found.count(True), 20)
        self.assertGreater(found.count(False), 20)

    def test_equal_tables(self):
        for table, pattern in random_questions_over_tables(random.Random(79), 30, "abcd"):
            self.assertIsNone(parting(table, table.changed(), pattern))

    def test_some_by_hand(self):
        table = small_book().table()
        other = table.changed(("s", "s", "s"))
        self.assertEqual(parting(table, other, many("s")), ("s", "s"))
        self.assertIsNone(parting(table=table, other=other, pattern=many(some("n", "m"))))
        # n and s raise over both, whatever s and s are
        self.assertIsNone(parting(table, other, row_of("n", many("s"))))

    def test_other_classes_of_one_table_may_be_outcomes(self):
        table = Table(("a", "b"), {("a", "a"): "b", ("a", "b"): "a", ("b", "a"): "a", ("b", "b"): "b"})
        other = Table(("a", "c"), {("a", "a"): "c", ("a", "c"): "a", ("c", "a"): "a", ("c", "c"): "c"})
        self.assertEqual(parting(table, other, many("a")), ("a", "a"))
        # b over the one table where c is over the other: three a's are a over both
        self.assertIsNone(parting(table, other, row_of("a", "a", "a")))
        self.assertIsNone(parting(table, other, one("a")))
        tree = parting(table, other, row_of("a", "a", "a", "a"))
        self.assertEqual(outcome_of(table, tree) == outcome_of(other, tree), False)

    def test_raising_over_one_table(self):
        table = table_by("ab", lambda left, right: "a")
        other = table_by("ab", lambda left, right: None if left + right == "bb" else "a")
        self.assertEqual(parting(table, other, row_of("b", "b")), ("b", "b"))
        tree = parting(table, other, row_of("a", "b", "b"))
        self.assertEqual(tree, ("a", ("b", "b")))

    def test_long_rows(self):
        pattern = row_of(many(row_of(row_of(*"xxxx"), row_of(*"xxx"))), "x")
        table, other = counter(), counter(first="x")
        tree = parting(table, other, pattern)
        self.assertNotEqual(outcome_of(table, tree), outcome_of(other, tree))
        self.assertTrue(matches(pattern, leaves(tree)))
        tree = parting(doubling(), doubling().changed(("g", "g", "a")), many("a"))
        self.assertEqual(len(leaves(tree)), 128)

    def test_of_the_largest_patterns_and_tables(self):
        chance = random.Random(80)
        table = random_table(chance, "abcdefghij", 0.1)
        other = random_table(chance, "abcdefghij", 0.1)
        loops = [row_of(*[many(name) for name in names]) for names in ("abcd", "efgh", "ijab")]
        tree = parting(table, other, many(row_of(*loops)))
        self.assertNotEqual(outcome_of(table, tree), outcome_of(other, tree))
        # the first class of a row, and the last one
        left, right = [table_by("abcdefghij", rule) for rule in (lambda a, b: a, lambda a, b: b)]
        self.assertIsNone(parting(left, left.changed(), many(row_of(*loops))))
        self.assertIsNotNone(parting(left, right, many(row_of(*loops))))


def parted_by_words(table, other, pattern):
    """Whether a row of the pattern has different outcomes over both tables, by adding pairs of outcomes."""
    pairs = PairTable(table, other)
    stops = ends(pattern)
    found = spans_by_words(pairs, [(start, end, (name, name)) for start, end, name in steps(pattern)])
    return any(start == 0 and end in stops and both[0] != both[1] for start, end, both in found)


class PairTable:
    """The sums of pairs of outcomes."""

    def __init__(self, table, other):
        self.tables = (table, other)

    def sum_of(self, left, right):
        return tuple(
            None if one_part is None or other is None else table.sum_of(one_part, other)
            for table, one_part, other in zip(self.tables, left, right)
        )


class NoPatterns(unittest.TestCase):
    def test_values_that_are_no_patterns_with_classes_of_the_table(self):
        table = small_book().table()
        others = [one("a"), many("a"), some("n", "a"), row_of("n", "m", many(some("s", "x"))), "n"]
        for value in NO_PATTERNS + others + [with_bottom(3000, "n", "left")]:
            for ask in (
                lambda: spans(table, value),
                lambda: outcomes(table, value),
                lambda: example(table, value, "n"),
                lambda: example(table, value, 7),
                lambda: parting(table, table, value),
            ):
                self.assertIs(error_of(NoPattern, ask).pattern, value)

    def test_a_class_that_one_of_both_tables_does_not_have(self):
        table = small_book().table()
        other = table_by("mnt", lambda left, right: left)
        for pattern in (one("s"), one("t"), many(some("n", "s")), row_of("n", "t")):
            for first, second in ((table, other), (other, table)):
                self.assertIs(error_of(NoPattern, lambda: parting(first, second, pattern)).pattern, pattern)
        self.assertIsNone(parting(table, other, one("n")))

    def test_a_table_without_classes(self):
        table = Book().table()
        for ask in (spans, outcomes, lambda *both: example(*both, None)):
            self.assertEqual(error_of(NoPattern, lambda: ask(table, one("n"))).pattern, one("n"))


class General(unittest.TestCase):
    def test_nothing_is_kept_or_changed(self):
        table = small_book().table()
        pattern = many(some("n", "m", "s"))
        before = copy.deepcopy((table, pattern))
        for ask in (spans, outcomes):
            told = ask(table, pattern)
            ask(table, pattern).clear()
            self.assertEqual(ask(table, pattern), told)
        parting(table, table, pattern)
        self.assertEqual((table, pattern), before)


if __name__ == "__main__":
    unittest.main()
