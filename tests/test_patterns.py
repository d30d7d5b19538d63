"""Points 4, 11, 12 and 22: patterns, their texts, their rows, and the steps that read these."""

import inspect
import itertools
import random
import unittest

from eitherside import patterns
from eitherside.errors import NoPattern, NoText
from eitherside.patterns import ends, is_pattern, matches, read_pattern, show_pattern, steps
from helper import (
    NAMES,
    NO_NAMES,
    NO_PATTERNS,
    by_length,
    classes_of,
    error_of,
    many,
    nodes_by_rows,
    one,
    random_pattern,
    row_of,
    rows_up_to,
    some,
    with_bottom,
)


def deep(depth, kind="many"):
    """A pattern of this depth."""
    pattern = one("a")
    for _ in range(depth - 1):
        pattern = many(pattern) if kind == "many" else (kind, (one("b"), pattern))
    return pattern


def with_classes(number):
    """A pattern with this many classes, at most 16."""
    parts = [one("abcdef"[k % 6]) for k in range(number)]
    while len(parts) > 1:
        groups = [parts[at:at + 4] for at in range(0, len(parts), 4)]
        parts = [("row", tuple(group)) if len(group) > 1 else group[0] for group in groups]
    return parts[0]


def random_patterns(seed, number, names="abc", depth=4):
    chance = random.Random(seed)
    found = []
    while len(found) < number:
        pattern = random_pattern(chance, names, depth)
        if is_pattern(pattern):
            found.append(pattern)
    return found


SAMPLES = [
    (one("abc"), "abc"),
    (many("a"), "a+"),
    (many(many("a")), "a++"),
    (some("a", "b"), "(a|b)"),
    (some("a", "b", "a", "c"), "(a|b|a|c)"),
    (row_of("a", "b"), "(a b)"),
    (row_of("a", "b", "b", "c"), "(a b b c)"),
    (many(some("a", "b", "c")), "(a|b|c)+"),
    (many(row_of("a", many("b"))), "(a b+)+"),
    (row_of(some("a", many("b")), many(row_of("c", "d")), "e"), "((a|b+) (c d)+ e)"),
    (some(row_of("a", "b"), many(some("a", "b"))), "((a b)|(a|b)+)"),
    (some(some("a", "b"), "c"), "((a|b)|c)"),
    (row_of(row_of("a", "b"), "c"), "((a b) c)"),
    (some(many("any"), "row", "many", "one"), "(any+|row|many|one)"),
]


class IsPattern(unittest.TestCase):
    def test_of_each_kind(self):
        for pattern, _ in SAMPLES:
            self.assertIs(is_pattern(value=pattern), True)
        for name in NAMES:
            self.assertIs(is_pattern(one(name)), True)
            self.assertIs(is_pattern(some("a", many(name))), True)

    def test_any_other_value(self):
        for value in NO_PATTERNS:
            with self.subTest(repr(value)[:60]):
                self.assertIs(is_pattern(value), False)
                self.assertIs(is_pattern(("many", value)), False)
                for kind in ("any", "row"):
                    self.assertIs(is_pattern((kind, (value, one("a")))), False)
                    self.assertIs(is_pattern((kind, (one("a"), one("b"), value))), False)

    def test_names_that_are_none(self):
        for name in NO_NAMES:
            self.assertIs(is_pattern(("one", name)), False)
            self.assertIs(is_pattern(many(("one", name))), False)

    def test_depth_six_and_seven(self):
        for kind in ("many", "any", "row"):
            for depth in range(1, 7):
                self.assertIs(is_pattern(deep(depth, kind)), True)
            for depth in (7, 8, 100, 5000):
                self.assertIs(is_pattern(deep(depth, kind)), False)
        self.assertIs(is_pattern(some("a", deep(5))), True)
        self.assertIs(is_pattern(some("a", deep(6))), False)
        self.assertIs(is_pattern(some(deep(6), "a")), False)
        self.assertIs(is_pattern(row_of("a", some("b", deep(4)))), True)
        self.assertIs(is_pattern(row_of("a", some("b", deep(5)))), False)

    def test_twelve_classes_and_thirteen(self):
        for number in range(1, 13):
            self.assertEqual(len(classes_of(with_classes(number))), number)
            self.assertIs(is_pattern(with_classes(number)), True)
        for number in (13, 14, 16):
            self.assertIs(is_pattern(with_classes(number)), False)
        self.assertIs(is_pattern(some(*[row_of(*"aaaa")] * 3)), True)
        self.assertIs(is_pattern(some(*[row_of(*"aaaa")] * 3, "a")), False)
        full = one("a")
        for _ in range(5):
            full = some(full, full, full, full)
        self.assertIs(is_pattern(full), False)

    def test_one_to_five_parts(self):
        for kind in ("any", "row"):
            for number in range(8):
                self.assertIs(is_pattern((kind, (one("a"),) * number)), 2 <= number <= 4)

    def test_lists_for_tuples(self):
        for pattern, _ in SAMPLES:
            self.assertIs(is_pattern(list(pattern)), False)
            self.assertIs(is_pattern((pattern[0], list(pattern[1]))), False)

    def test_deep_values_that_are_none(self):
        for side in ("left", "right", "by turns"):
            self.assertIs(is_pattern(with_bottom(5000, "a", side)), False)
            self.assertIs(is_pattern(("one", with_bottom(5000, "a", side))), False)


class Texts(unittest.TestCase):
    def test_how_patterns_are_written_and_read(self):
        for pattern, text in SAMPLES:
            self.assertEqual(show_pattern(pattern), text)
            self.assertEqual(read_pattern(text), pattern)
        self.assertEqual(show_pattern(pattern=one("a")), "a")
        self.assertEqual(read_pattern(text="a"), one("a"))

    def test_each_pattern_is_that_of_its_text(self):
        texts = {}
        for pattern in random_patterns(51, 500):
            text = show_pattern(pattern)
            self.assertEqual(read_pattern(text), pattern)
            self.assertEqual(texts.setdefault(text, pattern), pattern)

    def refuse(self, value):
        with self.subTest(value if isinstance(value, str) else "no string"):
            self.assertEqual(error_of(NoText, lambda: read_pattern(value)).position, 0)

    def test_no_string(self):
        for value in NO_NAMES + [one("a"), ["a"], ("a",), with_bottom(3000, "a", "left")]:
            if not isinstance(value, str):
                self.refuse(value)

    def test_spaces_too_many(self):
        texts = {show_pattern(pattern) for pattern in random_patterns(52, 60)}
        for text in sorted(texts | {text for _, text in SAMPLES}):
            for at in range(len(text) + 1):
                changed = text[:at] + " " + text[at:]
                # a space may split a name in two
                if not (text[at - 1:at].isalpha() and text[at:at + 1].isalpha()):
                    self.refuse(changed)
        for text in (
            " ", "a ", " a", "a\n", "\na", "(a  b)", "( a b)", "(a b )", "(a |b)", "(a| b)", "(a | b)", "a +", "(a\nb)",
        ):
            self.refuse(text)

    def test_signs_missing_or_too_many(self):
        for text in (
            "", "(", ")", "()", "(a", "a)", "(a)", "((a b))", "(a b", "a b", "a|b", "a b)", "(a b))", "((a b)", "(a|b",
            "a|b)",
            "(|a)", "(a|)", "(a||b)", "(|)", "|", "a|", "|a", "+", "+a", "a+a", "(+a b)", "(a b +)", "(a+ +)", "(+)",
            "(a|+)", "()+",
            "(ab)", "(ab|)", "(a b|c)", "(a|b c)", "((a b)c)", "(a(b c))", "(a b)(c d)", "(a b)c", "a(b c)", "(a b)+c",
            "(a|b)|c",
            "(a+b)", "((a|b)(c|d))", "(a ())", "(() a)", "(a))(b", ")a b(", "(a b)(", "(a b))", "((((", "))))", "||||",
            "++++", "a ++",
            "(a|b)c", "(a b) +", "(a (b)", "(a) b)", "(a ) b", "(a|b|)", "(|a|b)", "(a b|)", "(|a b)",
        ):
            self.refuse(text)

    def test_other_signs(self):
        for text in (
            "[a b]", "(a, b)", "(a/b)", "a*", "a?", "(a.b)", "{a b}", "('one', 'a')", "('many', ('one', 'a'))", "a'",
            "(a&b)",
        ):
            self.refuse(text)

    def test_names_that_are_none(self):
        for name in NO_NAMES + ["abcdefg", "aaaaaaa", "Ab"]:
            # two names are no name, but within a pattern they are two
            if isinstance(name, str) and name != "a b":
                for text in (name, name + "+", f"(a {name})", f"({name}|a)", f"(a b (c {name}))"):
                    self.refuse(text)

    def test_too_deep_or_too_many(self):
        self.assertEqual(read_pattern("a+++++"), deep(6))
        for text in (
            "a++++++", "a" + "+" * 1999, "(a|(a|(a|(a|(a|(a|b))))))", "(" * 1000 + "a b" + ")" * 997,
            "(a" * 990 + ")" * 20,
        ):
            self.refuse(text)
        self.assertEqual(show_pattern(read_pattern("(a|(a|(a|(a|(a|b)))))")), "(a|(a|(a|(a|(a|b)))))")
        self.assertEqual(len(classes_of(read_pattern("((a a a a) (a a a a) (a a a a))"))), 12)
        for text in ("((a a a a) (a a a a) (a a a a) a)", "(a a a a a)", "(a|b|c|d|e)"):
            self.refuse(text)

    def test_one_sign_changed_is_read_only_if_it_is_a_text(self):
        for text in ["(a|b)", "(a b)", "a+", "((a b)+|c)", "(a+ (b|c))"]:
            for at in range(len(text) + 1):
                for changed in [text[:at] + text[at + 1:]] + [text[:at] + sign + text[at:] for sign in "( )|+a\n"]:
                    try:
                        self.assertEqual(show_pattern(read_pattern(changed)), changed)
                    except NoText as error:
                        self.assertEqual(error.position, 0)


class Rows(unittest.TestCase):
    def test_in_order_and_each_once(self):
        for pattern in random_patterns(53, 200) + [pattern for pattern, _ in SAMPLES]:
            expected = by_length(rows_up_to(pattern, 5))
            # one row more than these is longer, or there is none
            found = list(itertools.islice(patterns.rows(pattern), len(expected) + 1))
            self.assertEqual(found[:len(expected)], expected)
            self.assertTrue(all(len(row) > 5 for row in found[len(expected):]))

    def test_some_by_hand(self):
        told = [
            (one("a"), [("a",)]),
            (some("b", "a", "b"), [("a",), ("b",)]),
            (row_of("b", "a"), [("b", "a")]),
            (row_of(some("b", "a"), "c"), [("a", "c"), ("b", "c")]),
            (some(row_of("a", "a"), "b"), [("b",), ("a", "a")]),
            (many("a"), [("a",), ("a",) * 2, ("a",) * 3]),
            (many(some("b", "a")), [("a",), ("b",), ("a", "a"), ("a", "b"), ("b", "a"), ("b", "b"), ("a", "a", "a")]),
            (many(row_of("a", "b")), [("a", "b"), ("a", "b") * 2, ("a", "b") * 3]),
            (some(many("a"), many(many("a"))), [("a",), ("a",) * 2, ("a",) * 3]),
            (row_of(many("a"), many("a")), [("a",) * 2, ("a",) * 3, ("a",) * 4]),
            (many(some("ab", "a", "b")), [("a",), ("ab",), ("b",), ("a", "a"), ("a", "ab"), ("a", "b"), ("ab", "a")]),
        ]
        for pattern, expected in told:
            self.assertEqual(list(itertools.islice(patterns.rows(pattern), len(expected))), expected)

    def test_patterns_with_so_many_rows_end(self):
        for pattern in random_patterns(54, 100):
            if "+" not in show_pattern(pattern):
                self.assertEqual(list(patterns.rows(pattern)), by_length(rows_up_to(pattern, 12)))

    def test_it_is_a_generator_of_rows_of_any_length(self):
        self.assertTrue(inspect.isgeneratorfunction(patterns.rows))
        for size, row in enumerate(itertools.islice(patterns.rows(pattern=many("a")), 200), 1):
            self.assertEqual(row, ("a",) * size)
        longest = list(itertools.islice(patterns.rows(many(row_of(*[row_of(*"abcd")] * 3))), 30))
        self.assertEqual(longest, [tuple("abcd") * 3 * k for k in range(1, 31)])
        wide = list(itertools.islice(patterns.rows(many(some(*"abcd"))), 4 + 16 + 64))
        self.assertEqual(len(set(wide)), 84)
        self.assertEqual(wide[-1], ("d", "d", "d"))

    def test_two_generators_share_no_state(self):
        one_by_one, other = patterns.rows(many("a")), patterns.rows(many("a"))
        self.assertEqual([next(one_by_one), next(one_by_one), next(other)], [("a",), ("a", "a"), ("a",)])


class Matches(unittest.TestCase):
    def test_against_all_rows(self):
        for pattern in random_patterns(55, 150, "ab"):
            expected = rows_up_to(pattern, 5)
            for size in range(6):
                for row in itertools.product("ab", repeat=size):
                    self.assertIs(matches(pattern, row), row in expected)

    def test_rows_of_any_length(self):
        self.assertIs(matches(many("a"), ("a",) * 20000), True)
        self.assertIs(matches(many("a"), ("a",) * 20000 + ("b",)), False)
        self.assertIs(matches(many(row_of("a", "b")), ("a", "b") * 10000), True)
        self.assertIs(matches(pattern=many(row_of("a", "b")), row=("a", "b") * 10000 + ("a",)), False)

    def test_other_values(self):
        pattern = many(some("a", "b"))
        for row in NO_NAMES + [
            "a", "ab", ["a"], ["a", "b"], (), ("c",), ("a", "c"), ("a", None), (None,), (1,), (True,), (("a", "b"),),
            ("a", ("b",)),
            ("a", ["b"]), ("a", ""), ("",), ("A",), ("ab",), one("a"), pattern, {}, with_bottom(3000, "a", "left"),
            (with_bottom(3000, "a", "left"),),
        ]:
            if row != ("a",):
                self.assertIs(matches(pattern, row), False)
        self.assertIs(matches(pattern, ("a",)), True)


class Nodes(unittest.TestCase):
    def test_some_by_hand(self):
        self.assertEqual(steps(one("a")), [(0, 1, "a")])
        self.assertEqual(ends(one("a")), [1])
        self.assertEqual(steps(many("a")), [(0, 1, "a"), (1, 1, "a")])
        self.assertEqual(steps(some("b", "a")), [(0, 1, "b"), (0, 2, "a")])
        self.assertEqual(ends(some("b", "a")), [1, 2])
        self.assertEqual(steps(row_of("b", "a")), [(0, 1, "b"), (1, 2, "a")])
        self.assertEqual(ends(row_of("b", "a")), [2])
        pattern = many(row_of(some("a", "b"), many("c")))
        told = [(0, 1, "a"), (0, 2, "b"), (1, 3, "c"), (2, 3, "c"), (3, 1, "a"), (3, 2, "b"), (3, 3, "c")]
        self.assertEqual(steps(pattern=pattern), told)
        self.assertEqual(ends(pattern=pattern), [3])

    def test_what_the_rows_show(self):
        for pattern in random_patterns(56, 200) + [pattern for pattern, _ in SAMPLES]:
            # each step is in a row with two rows of a part at most, one after the other
            number = len(classes_of(pattern))
            if number <= 4:
                self.assertEqual((steps(pattern), ends(pattern)), nodes_by_rows(pattern, 2 * number))

    def test_ascending_without_duplicates(self):
        for pattern in random_patterns(57, 200):
            for found in (steps(pattern), ends(pattern)):
                self.assertEqual(found, sorted(set(found)))

    def test_new_lists_each_time(self):
        for pattern, _ in SAMPLES:
            for ask in (steps, ends):
                before = ask(pattern)
                ask(pattern).clear()
                self.assertEqual(ask(pattern), before)


class NoPatterns(unittest.TestCase):
    def test_values_that_are_no_patterns_over_names(self):
        for value in NO_PATTERNS + [deep(7), with_classes(13), with_bottom(5000, "a", "left"), {}]:
            for ask in (
                lambda: matches(value, ("a",)),
                lambda: matches(value, None),
                lambda: next(patterns.rows(value)),
                lambda: steps(value),
                lambda: ends(value),
            ):
                self.assertIs(error_of(NoPattern, ask).pattern, value)

    def test_the_error_of_a_generator_comes_with_its_first_item(self):
        made = patterns.rows("a")
        self.assertEqual(error_of(NoPattern, lambda: next(made)).pattern, "a")


if __name__ == "__main__":
    unittest.main()
