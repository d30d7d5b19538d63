"""Points 7, 8, 9 and 14: the left sums of the rows of patterns, and the cases that answer in them."""

import copy
import itertools
import random
import unittest

from eitherside.answers import answer
from eitherside.books import Book
from eitherside.errors import NoPattern
from eitherside.lefts import answering, idle, left_outcomes, left_parting
from eitherside.patterns import is_pattern, matches
from eitherside.rows import left_sum
from helper import (
    NO_NAMES,
    NO_PATTERNS,
    by_length,
    classes_of,
    error_of,
    in_order,
    many,
    one,
    random_entries,
    random_pattern,
    row_of,
    rows_up_to,
    small_book,
    some,
    with_bottom,
)

MOST = 4


def left_bracketing(book, row, inplace):
    """The left sum of the row and the places that answer in it, sum by sum."""
    found, places = row[0], []
    for name in row[1:]:
        if found is None:
            break
        attempts, found = answer(book, found, name, inplace=inplace)
        if found is not None:
            places.append(attempts[-1][2])
    return found, places


def places_of(book):
    return sorted(
        (name, side, index)
        for name, _, methods in book.entries()
        for side, cases, _ in methods
        for index in range(len(cases))
    )


def random_questions(seed, number):
    """Books with patterns over their classes."""
    chance = random.Random(seed)
    while number:
        names = chance.sample("abcdefghij", chance.randrange(1, 5))
        pattern = random_pattern(chance, names, 4)
        if is_pattern(pattern):
            number -= 1
            yield Book(random_entries(chance, names)), pattern


def clock(hands="abcdefgh", last="a"):
    """x + x is a, a + x is b and so on round the clock. With y, each of them is a, but the last hand may be another."""
    entries = [("y", None, ())]
    for name, following in zip("x" + hands, hands + hands[0]):
        cases = (("x", following), ("y", last if name == hands[-1] else "a"))
        entries.append((name, None, (("forward", cases, "decline"),)))
    return Book(entries)


# sevens of x
SEVENS = many(row_of(row_of(*"xxxx"), row_of(*"xxx")))


class LeftOutcomes(unittest.TestCase):
    def test_against_the_left_sums_of_short_rows(self):
        for book, pattern in random_questions(61, 150):
            for inplace in (False, True):
                found = left_outcomes(book, pattern, inplace=inplace)
                self.assertEqual([state for state, _ in found], in_order([state for state, _ in found]))
                firsts = {}
                for row in by_length(rows_up_to(pattern, MOST)):
                    firsts.setdefault(left_bracketing(book, row, inplace)[0], row)
                for state, row in found:
                    self.assertTrue(matches(pattern, row))
                    self.assertEqual(left_bracketing(book, row, inplace)[0], state)
                    if len(row) <= MOST:
                        self.assertEqual(firsts.pop(state), row)
                # all outcomes of short rows were among those found
                self.assertEqual(firsts, {})

    def test_some_by_hand(self):
        book = small_book()
        self.assertEqual(left_outcomes(book, one("s")), [("s", ("s",))])
        self.assertEqual(left_outcomes(book=book, pattern=many("s")), [("s", ("s",)), (None, ("s", "s"))])
        told = [("m", ("m",)), ("n", ("n",)), ("s", ("s",)), (None, ("m", "s"))]
        self.assertEqual(left_outcomes(book, many(some("s", "n", "m"))), told)
        self.assertEqual(left_outcomes(book, row_of("n", many("m"))), [("m", ("n", "m"))])
        pattern = row_of(many("n"), some("s", "m"))
        self.assertEqual(left_outcomes(book, pattern), [("m", ("n", "m")), (None, ("n", "s"))])

    def test_the_first_row_is_the_shortest_and_then_the_first_tuple(self):
        book = Book([(name, None, (("forward", ((name, "self"),), "decline"),)) for name in "cab"])
        pairs = some(row_of("b", "a"), row_of("a", "c"), row_of("a", "b"))
        pattern = some(row_of("a", "a", "b"), row_of("c", "c", "c"), pairs)
        self.assertEqual(left_outcomes(book, pattern), [("c", ("c", "c", "c")), (None, ("a", "b"))])

    def test_the_same_row_by_several_ways(self):
        book = small_book()
        pattern = some(row_of("n", "m"), row_of("n", some("m", "n")), many("n"))
        self.assertEqual(left_outcomes(book, pattern), [("m", ("n", "m")), ("n", ("n",))])

    def test_in_place(self):
        book = Book([("a", None, (("inplace", (("a", "b"),), "decline"),)), ("b", None, ())])
        self.assertEqual(left_outcomes(book, row_of("a", "a")), [(None, ("a", "a"))])
        self.assertEqual(left_outcomes(book, row_of("a", "a"), inplace=False), [(None, ("a", "a"))])
        self.assertEqual(left_outcomes(book, row_of("a", "a"), inplace=True), [("b", ("a", "a"))])
        with self.assertRaises(TypeError):
            left_outcomes(book, one("a"), True)

    def test_first_rows_of_more_than_forty_classes(self):
        found = left_outcomes(clock(), SEVENS)
        expected = {}
        for size in range(7, 60, 7):
            expected.setdefault("abcdefgh"[(size - 2) % 8], ("x",) * size)
        self.assertEqual(found, sorted(expected.items()))
        self.assertEqual(max(len(row) for _, row in found), 56)


class Answering(unittest.TestCase):
    def test_against_short_rows(self):
        for book, pattern in random_questions(62, 100):
            for inplace in (False, True):
                firsts = {}
                for row in by_length(rows_up_to(pattern, MOST)):
                    for place in left_bracketing(book, row, inplace)[1]:
                        firsts.setdefault(place, row)
                for place in places_of(book):
                    row = answering(book, pattern, place, inplace=inplace)
                    if row is None or len(row) > MOST:
                        self.assertNotIn(place, firsts)
                    else:
                        self.assertEqual(row, firsts[place])
                    if row is not None:
                        self.assertTrue(matches(pattern, row))
                        self.assertIn(place, left_bracketing(book, row, inplace)[1])

    def test_some_by_hand(self):
        book = small_book()
        pattern = many(some("n", "m", "s"))
        self.assertEqual(answering(book, pattern, ("n", "forward", 0)), ("m", "m"))
        self.assertEqual(answering(book, many("n"), ("n", "forward", 0)), ("n", "n"))
        self.assertEqual(answering(book=book, pattern=pattern, place=("m", "reflected", 0)), ("n", "m"))
        self.assertIsNone(answering(book, many("n"), ("m", "reflected", 0)))
        self.assertIsNone(answering(book, one("n"), ("n", "forward", 0)))

    def test_the_row_goes_on_to_an_end(self):
        book = small_book()
        self.assertEqual(answering(book, row_of("n", "n", "m", "s"), ("n", "forward", 0)), ("n", "n", "m", "s"))
        self.assertEqual(answering(book, row_of("n", "n", "m", "s"), ("m", "reflected", 0)), ("n", "n", "m", "s"))
        self.assertEqual(answering(book, row_of("n", "n", some("s", "n", "m")), ("n", "forward", 0)), ("n", "n", "m"))

    def test_sums_after_one_that_raises_are_not_made(self):
        book = small_book()
        self.assertIsNone(answering(book, row_of("s", "s", "n", "n"), ("n", "forward", 0)))
        self.assertIsNone(answering(book, row_of("n", "s", "m", "n"), ("n", "forward", 0)))
        pattern = some(row_of("s", "n", "n"), row_of("n", "n", "s"))
        self.assertEqual(answering(book, pattern, ("n", "forward", 0)), ("n", "n", "s"))
        # (s, (n, n)) and the like are other bracketings
        self.assertIsNone(answering(book, row_of("s", "n", "n"), ("n", "forward", 0)))

    def test_in_place(self):
        methods = (("forward", (("a", "a"),), "decline"), ("inplace", (("b", "b"),), "decline"))
        book = Book([("a", None, methods), ("b", None, ())])
        pattern = many(some("a", "b"))
        self.assertIsNone(answering(book, pattern, ("a", "inplace", 0)))
        self.assertIsNone(answering(book, pattern, ("a", "inplace", 0), inplace=False))
        self.assertEqual(answering(book, pattern, ("a", "inplace", 0), inplace=True), ("a", "b"))
        self.assertEqual(answering(book, pattern, ("a", "forward", 0), inplace=True), ("a", "a"))
        with self.assertRaises(TypeError):
            answering(book, pattern, ("a", "inplace", 0), True)

    def test_any_value_as_place(self):
        book = Book([("n", None, (("forward", (("n", "self"), ("m", "self")), "decline"),)), ("m", None, ())])
        pattern = many(some("n", "m"))
        deep = with_bottom(3000, "n", "left")
        for place in NO_NAMES + [
            ("n", "forward", False), ("n", "forward", True), ("n", "forward", 2), ("n", "forward", -1),
            ("n", "forward", None),
            ("n", "forward", "0"), ("n", "forward"), ("n", "forward", 0, 0), ["n", "forward", 0], ("m", "forward", 0),
            ("n", "reflected", 0), ("n", "inplace", 0), ("n", "Forward", 0), ("n", None, 0), (None, "forward", 0),
            ("z", "forward", 0),
            (["n"], "forward", 0), ("n", ("forward",), 0), ("n", "forward", (0,)), ("n", "forward", [0]), deep,
            (deep, "forward", 0),
            ("n", deep, 0), ("n", "forward", deep), {}, ("n", "forward", 10 ** 39),
        ]:
            self.assertIsNone(answering(book, pattern, place))
        self.assertEqual(answering(book, pattern, ("n", "forward", 0)), ("n", "n"))
        self.assertEqual(answering(book, pattern, ("n", "forward", 1)), ("n", "m"))

    def test_first_rows_of_more_than_forty_classes(self):
        self.assertEqual(answering(clock(), row_of(SEVENS, "y"), ("h", "forward", 1)), ("x",) * 49 + ("y",))
        self.assertEqual(answering(clock(), row_of(many("x"), "y"), ("h", "forward", 1)), ("x",) * 9 + ("y",))


class Idle(unittest.TestCase):
    def test_against_answering(self):
        for book, pattern in random_questions(63, 100):
            for inplace in (False, True):
                found = idle(book, pattern, inplace=inplace)
                for place in places_of(book):
                    self.assertEqual(answering(book, pattern, place, inplace=inplace) is None, place in found)
                self.assertEqual(found, [place for place in places_of(book) if place in found])

    def test_no_short_row_shows_the_contrary(self):
        for book, pattern in random_questions(64, 100):
            for inplace in (False, True):
                found = idle(book, pattern, inplace=inplace)
                for row in rows_up_to(pattern, MOST):
                    for place in left_bracketing(book, row, inplace)[1]:
                        self.assertNotIn(place, found)

    def test_some_by_hand(self):
        book = small_book()
        self.assertEqual(idle(book, many(some("n", "m"))), [])
        self.assertEqual(idle(book=book, pattern=many("n")), [("m", "reflected", 0)])
        self.assertEqual(idle(book, one("n")), [("m", "reflected", 0), ("n", "forward", 0)])
        self.assertEqual(idle(book, row_of("s", many("n"))), [("m", "reflected", 0), ("n", "forward", 0)])

    def test_cases_that_no_pattern_can_reach(self):
        cases = (("b", "self"), ("b", "other"), ("a", "a"))
        methods = (("forward", cases, "decline"), ("reflected", (("a", "a"),), "super"))
        book = Book([("a", None, methods), ("b", None, ())])
        self.assertEqual(idle(book, many(some("a", "b"))), [("a", "forward", 1), ("a", "reflected", 0)])

    def test_cases_of_methods_in_place(self):
        method = (("b", "b"), ("a", "a"))
        book = Book([("a", None, (("forward", method, "decline"), ("inplace", method, "decline"))), ("b", None, ())])
        pattern = row_of("a", "b")
        self.assertEqual(idle(book, pattern), [("a", "forward", 1), ("a", "inplace", 0), ("a", "inplace", 1)])
        self.assertEqual(idle(book, pattern, inplace=False), idle(book, pattern))
        told = [("a", "forward", 0), ("a", "forward", 1), ("a", "inplace", 1)]
        self.assertEqual(idle(book, pattern, inplace=True), told)
        with self.assertRaises(TypeError):
            idle(book, pattern, True)

    def test_long_rows_show_it(self):
        self.assertNotIn(("h", "forward", 1), idle(clock(), row_of(SEVENS, "y")))
        # the hands stand still between rows of eight
        eights = many(row_of(row_of(*"xxxx"), row_of(*"xxxx")))
        stopped = [(name, "forward", 1) for name in "abcdefhx"]
        self.assertEqual([place for place in idle(clock(), row_of(eights, "y")) if place[2] == 1], stopped)


class LeftParting(unittest.TestCase):
    def check(self, book, other, pattern, inplace):
        found = left_parting(book, other, pattern, inplace=inplace)
        self.assertEqual(left_parting(other, book, pattern, inplace=inplace), found)
        parted = [
            row
            for row in by_length(rows_up_to(pattern, MOST))
            if left_bracketing(book, row, inplace)[0] != left_bracketing(other, row, inplace)[0]
        ]
        if found is None or len(found) > MOST:
            self.assertEqual(parted, [])
        else:
            self.assertEqual(found, parted[0])
        if found is not None:
            self.assertTrue(matches(pattern, found))
            self.assertNotEqual(left_bracketing(book, found, inplace)[0], left_bracketing(other, found, inplace)[0])
        return found is None

    def test_against_short_rows(self):
        chance = random.Random(65)
        found = []
        for book, pattern in random_questions(66, 150):
            names = chance.sample(book.classes(), len(book))
            entries = random_entries(chance, names)
            changed = [(name, base, chance.choice([methods, ()])) for name, base, methods in book.entries()]
            for other in (Book(entries), Book(changed)):
                for inplace in (False, True):
                    found.append(self.check(book, other, pattern, inplace))
        self.assertGreater(found.count(True), 40)
        self.assertGreater(found.count(False), 40)

    def test_equal_books(self):
        for book, pattern in random_questions(67, 30):
            self.assertIsNone(left_parting(book, Book(book.entries()), pattern))
            self.assertIsNone(left_parting(book, book, pattern, inplace=True))

    def test_different_books_that_are_equal_on_the_pattern(self):
        book = small_book()
        other = Book([("n", None, ()), ("m", None, ()), ("s", None, ())])
        self.assertIsNone(left_parting(book, other, row_of("s", many(some("n", "m")))))
        self.assertEqual(left_parting(book=book, other=other, pattern=many(some("n", "m"))), ("m", "m"))

    def test_other_classes_of_one_book_may_be_left_sums(self):
        one_book = Book([("x", None, ()), ("a", None, (("forward", (("a", "x"),), "decline"),))])
        methods = (("forward", (("a", "a"),), "decline"),)
        other = Book([("a", None, (("forward", (("a", "y"),), "decline"),)), ("y", None, methods)])
        self.assertEqual(left_parting(one_book, other, many("a")), ("a", "a"))
        self.assertEqual(left_parting(one_book, other, row_of("a", "a", "a")), ("a", "a", "a"))
        both = Book(other.entries()[:1] + [("y", None, ())])
        self.assertIsNone(left_parting(one_book, both, row_of("a", "a", "a")))

    def test_in_place(self):
        book = Book([("a", None, (("forward", (("a", "a"),), "decline"),))])
        methods = (("forward", (("a", "a"),), "decline"), ("inplace", (("a", "b"),), "decline"))
        other = Book([("a", None, methods), ("b", None, ())])
        self.assertIsNone(left_parting(book, other, many("a")))
        self.assertEqual(left_parting(book, other, many("a"), inplace=True), ("a", "a"))
        with self.assertRaises(TypeError):
            left_parting(book, other, many("a"), True)

    def test_first_rows_of_more_than_forty_classes(self):
        pattern = row_of(SEVENS, "y")
        self.assertEqual(left_parting(clock(), clock(last="b"), pattern), ("x",) * 49 + ("y",))
        self.assertIsNone(left_parting(clock(), clock(last="b"), SEVENS))

    def test_two_clocks_that_meet_at_all_ends(self):
        twelves = row_of("x", "x", many(row_of(*[row_of(*"xxxx")] * 2)))
        self.assertIsNone(left_parting(clock("ab"), clock("abcd"), twelves))
        self.assertEqual(left_parting(clock("ab"), clock("abcd"), many("x")), ("x",) * 4)
        self.assertIsNone(left_sum(clock("ab"), ("y", "x")))


class NoPatterns(unittest.TestCase):
    def ask_all(self, book, other, pattern):
        for inplace in (False, True):
            yield lambda: left_parting(book, other, pattern, inplace=inplace)
            yield lambda: left_parting(other, book, pattern, inplace=inplace)
            for function in (left_outcomes, idle):
                yield lambda: function(book, pattern, inplace=inplace)
            for place in (("n", "forward", 0), None, 7):
                yield lambda: answering(book, pattern, place, inplace=inplace)

    def test_values_that_are_no_patterns_with_classes_of_the_book(self):
        others = [one("a"), many("a"), some("n", "a"), row_of("n", "m", many(some("s", "x"))), "n"]
        for value in NO_PATTERNS + others + [with_bottom(3000, "n", "left")]:
            for ask in self.ask_all(small_book(), small_book(), value):
                self.assertIs(error_of(NoPattern, ask).pattern, value)

    def test_a_class_that_one_of_both_books_does_not_have(self):
        book = small_book()
        other = Book(book.entries()[:2] + [("t", None, ())])
        for pattern in (one("s"), one("t"), many(some("n", "s")), row_of("n", "t")):
            for first, second in ((book, other), (other, book)):
                error = error_of(NoPattern, lambda: left_parting(first, second, pattern))
                self.assertIs(error.pattern, pattern)
        self.assertIsNone(left_parting(book, other, many(some("n", "m"))))

    def test_a_book_without_classes(self):
        for ask in self.ask_all(Book(), Book(), one("n")):
            self.assertEqual(error_of(NoPattern, ask).pattern, one("n"))


class General(unittest.TestCase):
    def test_nothing_is_kept_or_changed(self):
        book = small_book()
        pattern = many(some("n", "m", "s"))
        before = copy.deepcopy(pattern)
        for ask in (left_outcomes, idle):
            told = ask(book, pattern)
            ask(book, pattern).append(None)
            self.assertEqual(ask(book, pattern), told)
        self.assertEqual((book, pattern), (small_book(), before))

    def test_all_classes_of_a_full_book(self):
        chance = random.Random(68)
        names = list("abcdefghij")
        for _ in range(3):
            book, other = [Book(random_entries(chance, names)) for _ in range(2)]
            groups = [some(*"abcd"), row_of(*"efgh"), some(many("i"), "j", "a", "b")]
            pattern = many(some(*groups))
            self.assertEqual(len(classes_of(pattern)), 12)
            for state, row in left_outcomes(book, pattern):
                self.assertEqual(left_bracketing(book, row, False)[0], state)
            idle(book, pattern)
            left_parting(book, other, pattern)

    def test_all_rows_of_two_classes(self):
        for book, _ in itertools.islice(random_questions(69, 40), 40):
            pattern = many(one(book.classes()[0]))
            for state, row in left_outcomes(book, pattern):
                self.assertEqual(row, (book.classes()[0],) * len(row))
                self.assertEqual(left_bracketing(book, row, False)[0], state)


if __name__ == "__main__":
    unittest.main()
