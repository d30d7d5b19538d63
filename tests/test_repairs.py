"""Points 3, 9 to 11, 13, 15 and 18: sound patterns and repairs."""

import copy
import itertools
import random
import unittest

from eitherside.books import Book
from eitherside.errors import NoPattern
from eitherside.repairs import is_sound, repair
from helper import (
    NO_PATTERNS,
    error_of,
    fewest_changes,
    is_sound_by_words,
    is_sound_in_short,
    many,
    one,
    random_questions_over_tables,
    random_table,
    real_changes,
    row_of,
    small_book,
    some,
    table_by,
    trees_of_short_rows,
    with_bottom,
)

MOST = 4


def questions(chance, number, names, most):
    """Tables with small patterns; some of the tables are nearly sound."""
    for table, pattern in random_questions_over_tables(chance, number, names, 4, most):
        kind = chance.randrange(4)
        names = "".join(table.classes())
        if kind < 3:
            table = table_by(names, [max, min, lambda left, right: left][kind])
            for _ in range(chance.randrange(6)):
                table = table.changed(tuple(chance.choice(names) for _ in range(3)))
        yield table, pattern


class Checks(unittest.TestCase):
    def check(self, table, pattern, most=2):
        """The number of changes of the repair, which is checked; None without one."""
        found = repair(table, pattern, most=most)
        if found is None:
            return None
        self.assertIsInstance(found, list)
        self.assertEqual(found, sorted(found))
        self.assertLessEqual(len(found), most)
        self.assertEqual(len({change[:2] for change in found}), len(found))
        for change in found:
            self.assertIsInstance(change, tuple)
            self.assertIn(change, real_changes(table))
        changed = table.changed(*found)
        self.assertTrue(is_sound(changed, pattern))
        self.assertTrue(is_sound_by_words(changed, pattern))
        self.assertEqual(repair(table, pattern, most=most), found)
        return len(found)


class Sound(unittest.TestCase):
    def test_against_bracketings_written_out(self):
        found = []
        for table, pattern in questions(random.Random(121), 250, "abc", 6):
            found.append(is_sound(table, pattern))
            if not is_sound_in_short(table, trees_of_short_rows(pattern, MOST + 1)):
                self.assertIs(found[-1], False)
        self.assertGreater(found.count(True), 8)
        self.assertGreater(found.count(False), 8)

    def test_against_all_spans_and_twists(self):
        for table, pattern in questions(random.Random(122), 250, "abcd", 6):
            self.assertIs(is_sound(table, pattern), is_sound_by_words(table, pattern))

    def test_some_by_hand(self):
        table = small_book().table()
        self.assertIs(is_sound(table, many(some("n", "m"))), True)
        self.assertIs(is_sound(table=table, pattern=one("s")), True)
        self.assertIs(is_sound(table, row_of("n", "s")), False)

    def test_where_a_bracketing_raises_or_brackets_matter(self):
        nothing = table_by("ab", lambda left, right: None)
        # all bracketings of all rows raise, so it is free
        self.assertIs(is_sound(nothing, row_of("a", "b")), False)
        self.assertIs(is_sound(nothing, some("a", "b")), True)
        table = table_by("ab", lambda left, right: "b" if left + right == "aa" else left)
        self.assertIs(is_sound(table, row_of("a", "a")), True)
        self.assertIs(is_sound(table, row_of(*"aaa")), False)

    def test_only_long_rows_may_show_it(self):
        # sums of a's count up to d, and only d and d raise
        names = "abcd"
        number = {name: at for at, name in enumerate(names, 1)}
        table = table_by(names, lambda left, right: names[min(number[left] + number[right], 4) - 1])
        self.assertIs(is_sound(table, many("a")), True)
        raising = table.changed(("d", "d", "c"))
        self.assertIs(is_sound(raising, row_of(many("a"), *"aaa")), False)
        self.assertIs(is_sound(raising, row_of(*"aaaa")), True)


class Repair(Checks):
    def test_against_all_sets_of_at_most_two_changes(self):
        chance = random.Random(123)
        found = []
        for _ in range(150):
            table = random_table(chance, "abc", chance.choice([0, 0.3]))
            if chance.random() < 0.5:
                table = table_by("abc", chance.choice([max, min]))
                table = table.changed(*[tuple(chance.choice("abc") for _ in range(3)) for _ in range(3)])
            rows = [row_of(*[chance.choice("abc") for _ in range(3)]) for _ in range(2)]
            pattern = chance.choice([rows[0], some(*rows), many(some("a", "b")), row_of(many("a"), *rows[1][1][1:])])
            for most in (0, 1, 2):
                found.append(self.check(table, pattern, most))
            self.assertEqual(found[-1], fewest_changes(table, pattern, 2))
            for most in (0, 1):
                expected = found[-1] if found[-1] is not None and found[-1] <= most else None
                self.assertEqual(found[most - 3], expected)
        for number in (0, 1, 2, None):
            self.assertGreater(found.count(number), 3)

    def test_over_four_classes(self):
        chance = random.Random(124)
        for _ in range(12):
            rule = chance.choice([max, min])
            table = table_by("abcd", rule)
            for _ in range(2):
                table = table.changed(tuple(chance.choice("abcd") for _ in range(3)))
            pattern = chance.choice([many(some(*"abcd")), row_of(many("a"), "b", many(some("c", "d")))])
            self.assertEqual(self.check(table, pattern), fewest_changes(table, pattern, 2))

    def test_none_against_pairs_of_changes_over_four_classes(self):
        chance = random.Random(125)
        found = []
        while len(found) < 4:
            table = random_table(chance, "abcd", 0.1)
            pattern = row_of("a", "b", many(some("c", "d")))
            if self.check(table, pattern) is None:
                found.append(fewest_changes(table, pattern, 2))
        self.assertEqual(set(found), {None})

    def test_some_by_hand(self):
        table = small_book().table()
        self.assertEqual(repair(table, many(some("n", "m"))), [])
        self.assertEqual(repair(table=table, pattern=row_of("n", "s"), most=1)[0][:2], ("n", "s"))
        self.assertIsNone(repair(table, row_of("n", "s"), most=0))
        self.assertEqual(repair(table, one("s"), most=0), [])
        nothing = table_by("ab", lambda left, right: None)
        self.assertEqual(self.check(nothing, row_of("a", "b")), 1)
        # (a, a) and (b, b) both raise
        self.assertEqual(self.check(nothing, some(row_of("a", "a"), row_of("b", "b"))), 2)
        self.assertIsNone(repair(nothing, some(row_of("a", "a"), row_of("b", "b")), most=1))
        self.assertIsNone(repair(nothing, some(row_of("a", "a"), row_of("b", "b"), row_of("a", "b"))))

    def test_two_are_the_most_without_a_word(self):
        nothing = table_by("ab", lambda left, right: None)
        self.assertEqual(len(repair(nothing, some(row_of("a", "a"), row_of("b", "b")))), 2)
        three = some(row_of("a", "a"), row_of("b", "b"), row_of("a", "b"))
        self.assertIsNone(repair(nothing, three, most=2))

    def test_no_pair_is_changed_twice_or_in_vain(self):
        chance = random.Random(126)
        for table, pattern in questions(chance, 250, "abcd", 6):
            self.check(table, pattern)

    def test_the_table_stays(self):
        table = table_by("ab", lambda left, right: None)
        before = copy.deepcopy(table)
        pattern = row_of("a", "b")
        repair(table, pattern).clear()
        self.assertEqual(table, before)
        self.assertEqual(len(repair(table, pattern)), 1)
        self.assertFalse(is_sound(table, pattern))

    def test_the_largest_patterns(self):
        chance = random.Random(127)
        patterns = [
            many(row_of(many("a"), many("b"), many(some("c", "d", "a", "b")))),
            many(some(row_of("a", "b", "c"), row_of("d", "a", "b"))),
            row_of(many("a"), many("b"), many("c"), row_of("d", "a", "b")),
        ]
        for pattern in patterns:
            for raising in (0, 0.1, 0.5, 1):
                self.check(random_table(chance, "abcd", raising), pattern)


class NoPatterns(unittest.TestCase):
    def test_values_that_are_no_patterns_with_classes_of_the_table(self):
        table = small_book().table()
        others = [one("a"), many("a"), some("n", "a"), row_of("n", "m", many(some("s", "x"))), "n"]
        for value in NO_PATTERNS + others + [with_bottom(3000, "n", "left")]:
            for ask in (is_sound, repair, lambda table, value: repair(table, value, most=0)):
                self.assertIs(error_of(NoPattern, lambda: ask(table, value)).pattern, value)

    def test_a_table_without_classes(self):
        for ask in (is_sound, repair):
            self.assertEqual(error_of(NoPattern, lambda: ask(Book().table(), one("n"))).pattern, one("n"))


if __name__ == "__main__":
    unittest.main()
