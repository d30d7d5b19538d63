"""Points 6, 7 and 8: which method answers the sum of two classes."""

import itertools
import unittest

from eitherside.answers import answer, is_prior, outcome
from eitherside.books import Book
from eitherside.errors import NoClass
from helper import M, N, NO_NAMES, S, python_answer

ENDINGS = ("decline", "super")


def forward(*cases, ending="decline"):
    return ("forward", cases, ending)


def reflected(*cases, ending="decline"):
    return ("reflected", cases, ending)


def in_place(*cases, ending="decline"):
    return ("inplace", cases, ending)


class TheExamples(unittest.TestCase):
    def test_as_they_are_written(self):
        book = Book([N, M, S])
        self.assertEqual(
            [answer(book, "n", "m"), answer(book, "m", "s")],
            [([("m", "reflected", ("m", "reflected", 0))], "m"), ([("m", "forward", None)], None)],
        )


class Asking(unittest.TestCase):
    def test_the_first_case_to_whose_argument_the_other_class_belongs(self):
        book = Book([
            ("a", None, ()),
            ("b", "a", ()),
            ("c", None, ()),
            ("x", None, (forward(("c", "x"), ("b", "a"), ("a", "b"), ("b", "c")),)),
        ])
        self.assertEqual(answer(book, "x", "c"), ([("x", "forward", ("x", "forward", 0))], "x"))
        self.assertEqual(answer(book, "x", "b"), ([("x", "forward", ("x", "forward", 1))], "a"))
        self.assertEqual(answer(book, "x", "a"), ([("x", "forward", ("x", "forward", 2))], "b"))
        self.assertEqual(answer(book, "x", "x"), ([("x", "forward", None)], None))

    def test_an_argument_does_not_stand_for_the_classes_above_it(self):
        book = Book([("a", None, ()), ("b", "a", ()), ("x", None, (forward(("b", "x")),))])
        self.assertIsNone(outcome(book, "x", "a"))
        self.assertEqual(outcome(book, "x", "b"), "x")

    def test_self_is_the_class_that_is_asked_and_other_the_other_one(self):
        book = Book([
            ("a", None, (forward(("p", "self"), ("q", "other")), reflected(("p", "other"), ("q", "self")))),
            ("b", "a", ()),
            ("p", None, ()),
            ("q", None, ()),
        ])
        self.assertEqual(outcome(book, "b", "p"), "b")
        self.assertEqual(outcome(book, "b", "q"), "q")
        self.assertEqual(outcome(book, "p", "b"), "p")
        self.assertEqual(outcome(book, "q", "b"), "b")
        self.assertEqual(answer(book, "q", "b")[0], [("b", "reflected", ("a", "reflected", 1))])

    def test_the_nearest_method_hides_those_above_it(self):
        book = Book([
            ("a", None, (forward(("p", "a")),)),
            ("b", "a", (forward(),)),
            ("c", "b", ()),
            ("p", None, ()),
        ])
        self.assertEqual(answer(book, "a", "p"), ([("a", "forward", ("a", "forward", 0))], "a"))
        self.assertEqual(answer(book, "b", "p"), ([("b", "forward", None)], None))
        self.assertEqual(answer(book, "c", "p"), ([("c", "forward", None)], None))

    def test_super_goes_on_above_the_class_in_which_the_method_stands(self):
        book = Book([
            ("a", None, (forward(("q", "a"), ("p", "self")),)),
            ("b", "a", ()),
            ("c", "b", (forward(("q", "other"), ending="super"),)),
            ("d", "c", ()),
            ("p", None, ()),
            ("q", None, ()),
        ])
        self.assertEqual(answer(book, "d", "p"), ([("d", "forward", ("a", "forward", 1))], "d"))
        self.assertEqual(answer(book, "d", "q"), ([("d", "forward", ("c", "forward", 0))], "q"))

    def test_super_goes_on_more_than_once_and_may_end_with_decline(self):
        book = Book([
            ("a", None, (forward(("p", "self")),)),
            ("b", "a", (forward(("q", "b")),)),
            ("c", "b", (forward(ending="super"),)),
            ("d", "c", (forward(ending="super"),)),
            ("p", None, ()),
            ("q", None, ()),
        ])
        self.assertEqual(answer(book, "d", "q"), ([("d", "forward", ("b", "forward", 0))], "b"))
        self.assertEqual(answer(book, "d", "p"), ([("d", "forward", None)], None))

    def test_super_with_nothing_above_declines(self):
        book = Book([
            ("a", None, (reflected(("a", "self")),)),
            ("b", "a", (forward(ending="super"),)),
            ("p", None, (forward(ending="super"),)),
        ])
        self.assertEqual(answer(book, "b", "p"), ([("b", "forward", None)], None))
        self.assertEqual(answer(book, "p", "p"), ([("p", "forward", None)], None))

    def test_super_keeps_to_its_side(self):
        book = Book([
            ("a", None, (reflected(("p", "a")), in_place(("p", "a")))),
            ("b", "a", (forward(ending="super"),)),
            ("p", None, ()),
        ])
        self.assertIsNone(outcome(book, "b", "p"))

    def test_who_has_no_method_is_not_asked(self):
        book = Book([("a", None, ()), ("b", None, (reflected(("a", "b")),)), ("c", None, ())])
        self.assertEqual(answer(book, "a", "b"), ([("b", "reflected", ("b", "reflected", 0))], "b"))
        self.assertEqual(answer(book, "a", "c"), ([], None))
        self.assertEqual(answer(book, "b", "a"), ([], None))
        self.assertEqual(answer(book, "a", "a", inplace=True), ([], None))


class Prior(unittest.TestCase):
    def test_a_class_below_with_a_reflected_method_of_its_own(self):
        book = Book([("a", None, (reflected(),)), ("b", "a", (reflected(),)), ("c", "b", ())])
        self.assertIs(is_prior(book, "a", "b"), True)
        self.assertIs(is_prior(book, "a", "c"), True)
        self.assertIs(is_prior(book, "b", "c"), False)

    def test_a_class_below_one_that_has_none(self):
        book = Book([("a", None, ()), ("b", "a", (reflected(),))])
        self.assertIs(is_prior(book, "a", "b"), True)
        self.assertIs(is_prior(book, "b", "a"), False)

    def test_not_with_the_method_that_both_inherit(self):
        book = Book([("z", None, (reflected(),)), ("a", "z", ()), ("b", "a", ())])
        self.assertIs(is_prior(book, "a", "b"), False)
        self.assertIs(is_prior(book, "z", "b"), False)

    def test_not_without_a_reflected_method(self):
        book = Book([("a", None, ()), ("b", "a", (forward(), in_place()))])
        self.assertIs(is_prior(book, "a", "b"), False)

    def test_not_beside_above_or_the_same(self):
        book = Book([("a", None, (reflected(),)), ("b", "a", (reflected(),)), ("c", "a", (reflected(),))])
        for left, right in [("b", "c"), ("c", "b"), ("b", "a"), ("a", "a"), ("b", "b")]:
            self.assertIs(is_prior(book, left, right), False)

    def test_equal_methods_in_different_classes_are_two_methods(self):
        same = reflected(("a", "self"))
        book = Book([("a", None, (same,)), ("b", "a", (same,))])
        self.assertIs(is_prior(book=book, left="a", right="b"), True)


class TheOrder(unittest.TestCase):
    def setUp(self):
        silent = (forward(), reflected(), in_place())
        self.book = Book([("a", None, silent), ("b", "a", silent), ("c", None, silent)])

    def sides(self, left, right, inplace=False):
        attempts, found = answer(self.book, left, right, inplace=inplace)
        self.assertIsNone(found)
        self.assertTrue(all(place is None for _, _, place in attempts))
        return [(asked, side) for asked, side, _ in attempts]

    def test_forward_then_reflected(self):
        self.assertEqual(self.sides("a", "c"), [("a", "forward"), ("c", "reflected")])
        self.assertEqual(self.sides("b", "a"), [("b", "forward"), ("a", "reflected")])

    def test_a_prior_class_is_asked_first(self):
        self.assertEqual(self.sides("a", "b"), [("b", "reflected"), ("a", "forward")])

    def test_a_class_with_itself_is_asked_once(self):
        self.assertEqual(self.sides("a", "a"), [("a", "forward")])
        self.assertEqual(self.sides("b", "b"), [("b", "forward")])

    def test_in_place_before_all_others(self):
        self.assertEqual(self.sides("a", "c", True), [("a", "inplace"), ("a", "forward"), ("c", "reflected")])
        self.assertEqual(self.sides("a", "b", True), [("a", "inplace"), ("b", "reflected"), ("a", "forward")])
        self.assertEqual(self.sides("a", "a", True), [("a", "inplace"), ("a", "forward")])

    def test_the_first_answer_ends_the_asking(self):
        book = Book([
            ("a", None, (forward(("a", "a")), in_place(("b", "other")))),
            ("b", "a", (reflected(("a", "b")),)),
            ("c", "a", (reflected(),)),
        ])
        self.assertEqual(answer(book, "a", "b"), ([("b", "reflected", ("b", "reflected", 0))], "b"))
        self.assertEqual(
            answer(book, "a", "c"),
            ([("c", "reflected", None), ("a", "forward", ("a", "forward", 0))], "a"),
        )
        self.assertEqual(answer(book, "a", "b", inplace=True), ([("a", "inplace", ("a", "inplace", 0))], "b"))
        self.assertEqual(
            answer(book, left="a", right="a", inplace=True),
            ([("a", "inplace", None), ("a", "forward", ("a", "forward", 0))], "a"),
        )

    def test_in_place_only_where_it_is_asked_for(self):
        book = Book([("a", None, (in_place(("a", "a")),))])
        self.assertEqual(answer(book, "a", "a"), ([], None))
        self.assertEqual(answer(book, "a", "a", inplace=False), ([], None))
        self.assertEqual(outcome(book, "a", "a"), None)
        self.assertEqual(outcome(book, "a", "a", inplace=True), "a")

    def test_the_names_of_the_arguments(self):
        self.assertEqual(len(answer(book=self.book, left="a", right="c", inplace=True)[0]), 3)
        self.assertIsNone(outcome(book=self.book, left="a", right="c", inplace=True))

    def test_inplace_is_passed_by_name_only(self):
        for function in (answer, outcome):
            with self.assertRaises(TypeError):
                function(self.book, "a", "a", True)


class WrongClasses(unittest.TestCase):
    def test_no_class_with_the_first_value_that_is_none(self):
        book = Book([N, M, S])
        deep = "n"
        for _ in range(2000):
            deep = (deep, "n")
        for value in NO_NAMES + ["a", "nn", ("n", "n"), ["n"]]:
            for pair in [(value, "n"), ("n", value), (value, "zz"), (value, None)]:
                for function in (answer, outcome, is_prior):
                    with self.assertRaises(NoClass) as caught:
                        function(book, *pair)
                    self.assertEqual(caught.exception.name, value)
                for function in (answer, outcome):
                    with self.assertRaises(NoClass) as caught:
                        function(book, *pair, inplace=True)
                    self.assertEqual(caught.exception.name, value)
        with self.assertRaises(NoClass) as caught:
            answer(book, "n", deep)
        self.assertIs(caught.exception.name, deep)

    def test_a_class_of_another_book_is_none(self):
        Book([("a", None, ())])
        with self.assertRaises(NoClass):
            outcome(Book(), "a", "a")


class General(unittest.TestCase):
    def test_lists_are_new_each_time(self):
        book = Book([N, M, S])
        first = answer(book, "n", "m")
        again = answer(book, "n", "m")
        self.assertIsNot(first[0], again[0])
        first[0].clear()
        self.assertEqual(answer(book, "n", "m"), again)

    def test_the_outcome_is_that_of_the_answer(self):
        book = Book([N, M, S])
        for left, right in itertools.product(book.classes(), repeat=2):
            for inplace in (False, True):
                self.assertEqual(
                    outcome(book, left, right, inplace=inplace),
                    answer(book, left, right, inplace=inplace)[1],
                )


class LikePython(unittest.TestCase):
    """The rules are Python's own: real classes made from a book answer their sums in the same way."""

    def check(self, book, entries):
        for left, right in itertools.product(book.classes(), repeat=2):
            for inplace in (False, True):
                self.assertEqual(
                    answer(book, left, right, inplace=inplace),
                    python_answer(entries, left, right, inplace),
                    (entries, left, right, inplace),
                )

    def test_all_ways_to_spread_silent_methods_over_three_classes(self):
        silent = [forward(ending="super"), reflected(ending="super"), in_place(ending="super")]
        choices = [
            tuple(method for method, taken in zip(silent, wanted) if taken)
            for wanted in itertools.product((False, True), repeat=3)
        ]
        for base_of_b, base_of_c in [(None, None), ("a", None), ("a", "a"), ("a", "b")]:
            for first, second, third in itertools.product(choices, repeat=3):
                entries = [("a", None, first), ("b", base_of_b, second), ("c", base_of_c, third)]
                self.check(Book(entries), entries)

    def test_methods_with_cases(self):
        cases = [(), (("b", "self"),), (("c", "other"), ("a", "c"))]
        methods = [()] + [
            (("forward", some, ending), ("reflected", others, ending))
            for some, others in itertools.product(cases, repeat=2)
            for ending in ENDINGS
        ]
        # not all of them at each place, to keep this short
        for first, second, third in itertools.product(methods[::2], methods, methods[::3]):
            entries = [("a", None, first), ("b", "a", second), ("c", "b", third)]
            self.check(Book(entries), entries)


if __name__ == "__main__":
    unittest.main()
