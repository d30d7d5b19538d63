"""Points 9, 10 and 13: outcomes of trees, left sums, and the bracketings of rows, counted and in order."""

import collections
import copy
import inspect
import itertools
import random
import unittest

from eitherside import rows
from eitherside.answers import outcome
from eitherside.books import Book
from eitherside.errors import NoOutcome, NoRank, NoRow, NoTree
from eitherside.rows import bracketing, counts, left_sum, outcome_of, rank_of, unfree_row
from eitherside.trees import leaves, left_tree, show_tree
from helper import (
    CHAINS,
    NO_NAMES,
    bracketings,
    differ_by_one_turn,
    error_of,
    in_order,
    outcome_by,
    random_entries,
    random_table,
    small_book,
    table_by,
    with_bottom,
)

SIDES = ("left", "right", "by turns")


def all_of(*arguments):
    return list(rows.bracketings(*arguments))


def catalan(number):
    """How many bracketings a row has with one class more than this."""
    found = 1
    for k in range(number):
        found = found * (4 * k + 2) // (k + 2)
    return found


def highest():
    """Free: the outcome is the last class of the row in the alphabet."""
    return table_by("abcd", max)


def by_length():
    """a, b, c for rows of one, two, three classes a; everything longer raises, and so does ((a, a), (a, a))."""
    return table_by("abc", lambda left, right: {"aa": "b", "ba": "c"}.get(left + right))


def ordered(trees, table):
    """A dict from each outcome to its bracketings, in the order of the list."""
    found = {}
    for tree in trees:
        found.setdefault(outcome_by(table, tree), []).append(tree)
    return found


def sort_key(tree):
    """The words of point 10 on the order of bracketings of one row."""
    if isinstance(tree, str):
        return (0,)
    return (len(leaves(tree[0])), sort_key(tree[0]), sort_key(tree[1]))


def short_cases(seed, many):
    """Tables with rows of one to six of their classes."""
    chance = random.Random(seed)
    for _ in range(many):
        names = "abcdefghij"[: chance.randrange(1, 5)]
        row = tuple(chance.choice(names) for _ in range(chance.randrange(1, 7)))
        yield random_table(chance, names, chance.choice([0, 0.2, 0.6])), row


class TheExamples(unittest.TestCase):
    def test_as_they_are_written(self):
        table = small_book().table()
        self.assertEqual(
            [
                counts(table, ("n", "m", "n", "n")),
                counts(table, ("n", "s", "n")),
                bracketing(table, ("n", "m", "n"), "m"),
            ],
            [[("m", 5)], [(None, 2)], ("n", ("m", "n"))],
        )


class OutcomeOf(unittest.TestCase):
    def test_a_class_is_its_own_outcome(self):
        table = small_book().table()
        for name in table.classes():
            self.assertEqual(outcome_of(table, name), name)

    def test_sums_within_sums(self):
        table = by_length()
        self.assertEqual(outcome_of(table, ("a", "a")), "b")
        self.assertEqual(outcome_of(table=table, tree=(("a", "a"), "a")), "c")
        self.assertIsNone(outcome_of(table, ("a", ("a", "a"))))

    def test_what_raises_within_raises_at_the_top(self):
        table = table_by("ab", lambda left, right: None if left + right == "bb" else "a")
        self.assertIsNone(outcome_of(table, (("b", "b"), "a")))
        self.assertIsNone(outcome_of(table, ("a", ("b", "b"))))
        self.assertIsNone(outcome_of(table, (("b", "b"), ("b", "b"))))
        self.assertEqual(outcome_of(table, (("b", "a"), "b")), "a")

    def test_all_short_trees(self):
        for table, row in short_cases(31, 60):
            for tree in bracketings(row):
                self.assertEqual(outcome_of(table, tree), outcome_by(table, tree))

    def test_deep_trees(self):
        left = table_by("abcd", lambda one, two: one)
        right = table_by("abcd", lambda one, two: two)
        for chain in CHAINS:
            for levels in (300, 900, 5000):
                tree = chain(levels)
                row = leaves(tree)
                self.assertEqual(outcome_of(left, tree), row[0])
                self.assertEqual(outcome_of(right, tree), row[-1])
                self.assertEqual(outcome_of(highest(), tree), "d")
                self.assertIsNone(outcome_of(highest_but_da(), tree) if chain is CHAINS[0] else None)

    def test_no_tree_over_the_table(self):
        table = small_book().table()
        values = ["a", "nn", ("n", "a"), (("n", "m"), "x"), ("n", "m", "s"), ["n", "m"], ("n",), (["n", "m"], "s")]
        for value in NO_NAMES + values:
            for tree in (value, ("n", value), (("n", value), "m"), (value, (value, "n"))):
                for function in (outcome_of, rank_of):
                    self.assertIs(error_of(NoTree, lambda: function(table, tree)).tree, tree)

    def test_deep_values_that_are_none(self):
        table = highest()
        for side in SIDES:
            for bottom in ("e", None, 1, (), ("a",), ["a", "b"], ("a", "b", "c")):
                for levels in (900, 5000):
                    value = with_bottom(levels, bottom, side)
                    for function in (outcome_of, rank_of):
                        self.assertIs(error_of(NoTree, lambda: function(table, value)).tree, value)

    def test_over_a_table_without_classes(self):
        self.assertEqual(error_of(NoTree, lambda: outcome_of(Book().table(), "a")).tree, "a")


def highest_but_da():
    return table_by("abcd", lambda left, right: None if (left, right) == ("d", "b") else max(left, right))


class LeftSum(unittest.TestCase):
    def test_from_left_to_right(self):
        book = small_book()
        self.assertEqual(left_sum(book, ("s",)), "s")
        self.assertEqual(left_sum(book, ("n", "m")), "m")
        self.assertEqual(left_sum(book=book, row=("n", "n", "m", "n")), "m")
        self.assertIsNone(left_sum(book, ("n", "m", "s")))

    def test_the_outcome_of_the_left_bracketing(self):
        chance = random.Random(32)
        for _ in range(60):
            names = chance.sample("abcdefghij", 3)
            book = Book(random_entries(chance, names))
            for row in itertools.product(names, repeat=chance.randrange(1, 5)):
                self.assertEqual(left_sum(book, row), outcome_by(book.table(), left_tree(row)))
                self.assertEqual(left_sum(book, row, inplace=False), left_sum(book, row))
                found = row[0]
                for name in row[1:]:
                    found = None if found is None else outcome(book, found, name, inplace=True)
                self.assertEqual(left_sum(book, row, inplace=True), found)

    def test_in_place(self):
        in_place = ("inplace", (("b", "b"),), "decline")
        book = Book([("a", None, (in_place,)), ("b", None, (("forward", (("a", "a"),), "decline"),))])
        self.assertEqual(left_sum(book, ("a", "b"), inplace=True), "b")
        self.assertEqual(left_sum(book, ("a", "b", "a"), inplace=True), "a")
        self.assertIsNone(left_sum(book, ("a", "b")))
        self.assertIsNone(left_sum(book, ("a", "a", "b"), inplace=True))

    def test_a_sum_that_raises_ends_it(self):
        book = Book([("a", None, (("forward", (("a", "self"), ("b", "b")), "decline"),)), ("b", None, ())])
        self.assertEqual(left_sum(book, ("a", "a", "b")), "b")
        for row in [("b", "a"), ("b", "a", "a", "a"), ("a", "b", "a", "a"), ("a", "b", "b", "a")]:
            self.assertIsNone(left_sum(book, row))

    def test_forty_classes(self):
        self.assertEqual(left_sum(small_book(), ("n",) * 39 + ("m",)), "m")

    def test_inplace_is_passed_by_name_only(self):
        with self.assertRaises(TypeError):
            left_sum(small_book(), ("n", "n"), True)


class NoRows(unittest.TestCase):
    def ask_all(self, row):
        book = small_book()
        table = book.table()
        return [
            lambda: left_sum(book, row),
            lambda: left_sum(book, row, inplace=True),
            lambda: counts(table, row),
            lambda: bracketing(table, row, "n"),
            lambda: bracketing(table, row, "zz", rank=None),
            lambda: next(rows.bracketings(table, row, "n")),
            lambda: next(rows.bracketings(table, row, 7)),
            lambda: unfree_row(table, row),
        ]

    def test_values_that_are_no_rows(self):
        deep = with_bottom(3000, "n", "left")
        for row in NO_NAMES + [
            (), ("n",) * 41, ("n",) * 5000, ["n"], ["n", "m"], "n", "nm", ("a",), ("n", "a"), ("a", "n"), (("n",),),
            (("n", "m"), "n"),
            ("n", None), ("n", 1), ("n", True), (["n"],), ("n", ["m"]), ("n", ""), ("n", "self"), deep,
            (deep, "n", "m"), {}, (None,) * 41,
        ]:
            for ask in self.ask_all(row):
                self.assertIs(error_of(NoRow, ask).row, row)

    def test_forty_classes_and_one(self):
        for many in (1, 2, 39, 40):
            table = small_book().table()
            self.assertEqual(counts(table, ("n",) * many), [("n", catalan(many - 1))])

    def test_the_error_of_a_generator_comes_with_its_first_item(self):
        made = rows.bracketings(small_book().table(), ["n"], "n")
        self.assertEqual(error_of(NoRow, lambda: next(made)).row, ["n"])


class Counts(unittest.TestCase):
    def test_against_all_bracketings(self):
        for table, row in short_cases(33, 200):
            found = collections.Counter(outcome_by(table, tree) for tree in bracketings(row))
            self.assertEqual(counts(table, row), [(one, found[one]) for one in in_order(found)])

    def test_none_comes_last(self):
        self.assertEqual(counts(table=by_length(), row=("a", "a", "a")), [("c", 1), (None, 1)])
        table = table_by("yz", lambda left, right: {"yy": "z", "zy": "y"}.get(left + right))
        self.assertEqual(counts(table, ("y",) * 4), [("z", 2), (None, 3)])
        self.assertEqual(counts(table, ("y",) * 3), [("y", 1), (None, 1)])

    def test_forty_classes(self):
        row = ("a", "d", "b", "c") * 10
        self.assertEqual(counts(highest(), row), [("d", catalan(39))])
        self.assertGreater(catalan(39), 10 ** 20)
        # each of two outcomes: a row of as many classes has one if and only if its number of b's is even
        parity = table_by("ab", lambda left, right: "a" if left == right else "b")
        self.assertEqual(counts(parity, ("a", "b") * 20), [("a", catalan(39))])

    def test_long_rows_with_several_outcomes(self):
        chance = random.Random(34)
        for names in ("ab", "abcd", "abcdefghij"):
            table = random_table(chance, names, 0.1)
            row = tuple(chance.choice(names) for _ in range(40))
            found = counts(table, row)
            self.assertEqual(sum(number for _, number in found), catalan(39))
            self.assertEqual([one for one, _ in found], in_order([one for one, _ in found]))
            # from the numbers of all its parts, in another way than by the last sum alone
            self.assertEqual(dict(found), counts_by_parts(table, row))

    def test_new_lists_each_time(self):
        table = small_book().table()
        first = counts(table, ("n", "s"))
        first.append(("n", 3))
        self.assertEqual(counts(table, ("n", "s")), [(None, 1)])


def counts_by_parts(table, row):
    """The numbers for all parts of the row, the short ones first."""
    found = {(at, at + 1): collections.Counter([name]) for at, name in enumerate(row)}
    for size in range(2, len(row) + 1):
        for low in range(len(row) - size + 1):
            high = low + size
            total = found[low, high] = collections.Counter()
            for middle in range(low + 1, high):
                for left, many in found[low, middle].items():
                    for right, more in found[middle, high].items():
                        one = None if left is None or right is None else table[left, right]
                        total[one] += many * more
    return dict(found[0, len(row)])


class Order(unittest.TestCase):
    def test_all_bracketings_in_order(self):
        for row in ("a", "ab", "abc", "abcd", "abcda", "aaaaaa", "abaaba"):
            trees = all_of(highest(), tuple(row), max(row))
            self.assertEqual(trees, bracketings(tuple(row)))
            self.assertEqual(trees, sorted(trees, key=sort_key))

    def test_the_bracketings_of_each_outcome_and_their_ranks(self):
        for table, row in short_cases(35, 150):
            for one, trees in ordered(bracketings(row), table).items():
                self.assertEqual(all_of(table, row, one), trees)
                for rank, tree in enumerate(trees):
                    self.assertEqual(bracketing(table, row, one, rank=rank), tree)
                    self.assertEqual(rank_of(table, tree), rank)
                self.assertEqual(bracketing(table, row, one), trees[0])

    def test_the_order_for_four_classes(self):
        told = ["(a (b (c d)))", "(a ((b c) d))", "((a b) (c d))", "((a (b c)) d)", "(((a b) c) d)"]
        self.assertEqual([show_tree(tree) for tree in all_of(highest(), tuple("abcd"), "d")], told)

    def test_one_class(self):
        table = small_book().table()
        self.assertEqual(bracketing(table, ("s",), "s"), "s")
        self.assertEqual(all_of(table, ("s",), "s"), ["s"])
        self.assertEqual(rank_of(table, "s"), 0)
        self.assertEqual(counts(table, ("s",)), [("s", 1)])

    def test_none_as_outcome(self):
        table = by_length()
        self.assertEqual(bracketing(table, ("a",) * 3, None), ("a", ("a", "a")))
        self.assertEqual(all_of(table, ("a",) * 3, None), [("a", ("a", "a"))])
        self.assertEqual(all_of(table, ("a",) * 3, "c"), [(("a", "a"), "a")])
        self.assertEqual(rank_of(table, (("a", "a"), ("a", "a"))), 2)
        self.assertEqual(all_of(table, ("a",) * 4, None), bracketings(("a",) * 4))

    def test_by_the_names_of_the_arguments(self):
        table = by_length()
        row = ("a", "a", "a")
        self.assertEqual(bracketing(table=table, row=row, outcome="c", rank=0), (("a", "a"), "a"))
        self.assertEqual(list(rows.bracketings(table=table, row=row, outcome="c")), [(("a", "a"), "a")])
        self.assertEqual(rank_of(table=table, tree=(("a", "a"), "a")), 0)
        with self.assertRaises(TypeError):
            bracketing(table, row, "c", 0)

    def test_outcomes_that_no_bracketing_has(self):
        table = by_length()
        row = ("a", "a", "a")
        for value in NO_NAMES + ["a", "b", "d", "zz", "", ("c",), ["c"], with_bottom(2000, "c", "left")]:
            if value is None:
                continue
            self.assertIs(error_of(NoOutcome, lambda: bracketing(table, row, value)).outcome, value)
            self.assertIs(error_of(NoOutcome, lambda: bracketing(table, row, value, rank=-1)).outcome, value)
            self.assertEqual(all_of(table, row, value), [])
        self.assertIsNone(error_of(NoOutcome, lambda: bracketing(table, ("a", "a"), None)).outcome)
        self.assertEqual(all_of(table, ("a", "a"), None), [])

    def test_values_that_are_no_ranks(self):
        table = highest()
        row = tuple("abcd")
        for value in NO_NAMES + [5, 6, -1, -5, 10 ** 39, -(10 ** 39), True, False, "0", "1", (0,), [0], {}]:
            if isinstance(value, bool) or value not in (0, 1):
                error = error_of(NoRank, lambda: bracketing(table, row, "d", rank=value))
                self.assertIs(error.rank, value)
        self.assertEqual(error_of(NoRank, lambda: bracketing(table, ("a",), "a", rank=1)).rank, 1)
        self.assertIs(error_of(NoRank, lambda: bracketing(table, ("a",), "a", rank=False)).rank, False)
        for rank in range(5):
            self.assertEqual(rank_of(table, bracketing(table, row, "d", rank=rank)), rank)

    def test_the_errors_in_their_order(self):
        table = highest()
        self.assertEqual(error_of(NoRow, lambda: bracketing(table, ("x",), "x", rank=9)).row, ("x",))
        self.assertEqual(error_of(NoOutcome, lambda: bracketing(table, ("a",), "x", rank=9)).outcome, "x")
        self.assertEqual(error_of(NoRank, lambda: bracketing(table, ("a",), "a", rank=9)).rank, 9)


class LongRows(unittest.TestCase):
    def test_ranks_of_forty_classes(self):
        chance = random.Random(36)
        for names in ("ab", "abc", "abcdefghij"):
            table = random_table(chance, names, 0.1)
            row = tuple(chance.choice(names) for _ in range(40))
            for one, number in counts(table, row)[-3:]:
                for rank in (0, number // 3, number - 1):
                    tree = bracketing(table, row, one, rank=rank)
                    self.assertEqual((leaves(tree), outcome_by(table, tree)), (row, one))
                    self.assertEqual(rank_of(table, tree), rank)
                error = error_of(NoRank, lambda: bracketing(table, row, one, rank=number))
                self.assertEqual(error.rank, number)

    def test_the_last_bracketing_is_the_left_one(self):
        row = ("a", "b", "c", "d") * 10
        last = bracketing(highest(), row, "d", rank=catalan(39) - 1)
        self.assertEqual(show_tree(last), show_tree(left_tree(row)))

    def test_bracketings_are_found_when_they_are_asked_for(self):
        self.assertTrue(inspect.isgeneratorfunction(rows.bracketings))
        table = random_table(random.Random(37), "abc", 0.1)
        row = tuple("abcacbb" * 6)[:40]
        for one, _ in counts(table, row):
            first = list(itertools.islice(rows.bracketings(table, row, one), 2000))
            for rank in (0, 1, 2, 3, 30, 300, 1999):
                self.assertEqual(first[rank], bracketing(table, row, one, rank=rank))

    def test_two_generators_share_no_state(self):
        table, row = highest(), tuple("abcd")
        one, two = rows.bracketings(table, row, "d"), rows.bracketings(table, row, "d")
        trees = bracketings(row)
        self.assertEqual([next(one), next(one), next(two), next(one), next(two)], [trees[k] for k in (0, 1, 0, 2, 1)])

    def test_ranks_of_deep_trees(self):
        for levels in (300, 700):
            number = catalan(levels)
            left, right, turns = [chain(levels) for chain in CHAINS]
            self.assertEqual(rank_of(highest(), left), number - 1)
            self.assertEqual(rank_of(highest(), right), 0)
            self.assertTrue(0 < rank_of(highest(), turns) < number - 1)

    def test_ranks_of_deep_trees_whose_parts_have_several_outcomes(self):
        # ((a, a), a) is not (a, (a, a)), and long rows of a class have both outcomes
        table = table_by("ab", lambda left, right: "b" if left + right == "aa" else left)
        for levels in (200, 300):
            row = ("a",) * (levels + 1)
            found = counts_of_alike(table, levels + 1)
            self.assertGreater(len(found), 1)
            one = outcome_of(table, left_tree(row))
            self.assertEqual(rank_of(table, left_tree(row)), found[one] - 1)

    def test_ranks_of_right_bracketings_need_nothing_else(self):
        chance = random.Random(38)
        table = random_table(chance, "abcdefghij", 0)
        tree = "a"
        for _ in range(3000):
            tree = (chance.choice("abcdefghij"), tree)
        self.assertEqual(rank_of(table, tree), 0)

    def test_ranks_of_any_trees_beyond_forty_leaves(self):
        chance = random.Random(39)
        table = random_table(chance, "ab", 0.1)
        row = tuple(chance.choice("ab") for _ in range(40))
        one, number = counts(table, row)[0]
        tree = bracketing(table, row, one, rank=number // 2)
        # with a class to its left, the trees before it are those before the inner one that come to the same outcome
        target = outcome_by(table, ("a", tree))
        before = sum(
            rank_within(table, row, tree, other)
            for other, _ in counts(table, row)
            if (None if other is None else table["a", other]) == target
        )
        self.assertEqual(rank_of(table, ("a", tree)), before)


def counts_of_alike(table, size):
    """The numbers for a row of this many classes a."""
    found = [None, collections.Counter("a")]
    for high in range(2, size + 1):
        total = collections.Counter()
        for middle in range(1, high):
            for left, many in found[middle].items():
                for right, more in found[high - middle].items():
                    total[table[left, right]] += many * more
        found.append(total)
    return found[size]


def rank_within(table, row, tree, one):
    """How many bracketings of the row with this outcome stand before the tree, by halving."""
    low, high = 0, dict(counts(table, row))[one]
    while low < high:
        middle = (low + high) // 2
        if sort_key(bracketing(table, row, one, rank=middle)) < sort_key(tree):
            low = middle + 1
        else:
            high = middle
    return low


class UnfreeRow(unittest.TestCase):
    def check(self, table, row):
        found = unfree_row(table, row)
        if len(counts(table, row)) == 1:
            self.assertIsNone(found)
            return False
        self.assertIsInstance(found, tuple)
        one, two = found
        self.assertEqual((leaves(one), leaves(two)), (row, row))
        self.assertTrue(differ_by_one_turn(one, two))
        self.assertNotEqual(outcome_by(table, one), outcome_by(table, two))
        self.assertEqual(unfree_row(table, row), found)
        return True

    def test_short_rows(self):
        found = [self.check(table, row) for table, row in short_cases(40, 300)]
        self.assertGreater(found.count(True), 50)
        self.assertGreater(found.count(False), 50)

    def test_rows_that_are_free_although_their_parts_are_not(self):
        # ((a, b), a) and (a, (b, a)) are different, but with c they come to the same
        table = table_by("abc", lambda left, right: "c" if "c" in left + right else left if left != right else "b")
        self.assertIsNotNone(unfree_row(table, ("a", "a", "a")))
        self.assertEqual(len(counts(table, ("a", "a", "a"))), 2)
        self.assertIsNone(unfree_row(table, ("a", "a", "a", "c")))

    def test_none_is_an_outcome(self):
        self.assertTrue(self.check(by_length(), ("a", "a", "a")))
        self.assertFalse(self.check(by_length(), ("a",) * 4))

    def test_forty_classes(self):
        chance = random.Random(41)
        for names in ("ab", "abcd", "abcdefghij"):
            for raising in (0, 0.1):
                table = random_table(chance, names, raising)
                self.check(table, tuple(chance.choice(names) for _ in range(40)))
        self.assertIsNone(unfree_row(highest(), ("a", "b", "c", "d") * 10))
        self.assertIsNone(unfree_row(table=small_book().table(), row=("n", "m") * 20))


class General(unittest.TestCase):
    def test_nothing_that_is_passed_is_changed(self):
        table = by_length()
        before = copy.deepcopy(table)
        row = ("a",) * 5
        counts(table, row)
        bracketing(table, row, None)
        all_of(table, row, None)
        rank_of(table, left_tree(row))
        outcome_of(table, left_tree(row))
        unfree_row(table, row)
        self.assertEqual(table, before)
        book = small_book()
        left_sum(book, ("n", "m"))
        self.assertEqual(book, small_book())


if __name__ == "__main__":
    unittest.main()
