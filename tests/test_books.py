"""Names, and what the other modules ask of a book (points 4 and 6)."""

import unittest

from eitherside.books import Book, is_name
from eitherside.errors import NoClass
from helper import M, N, NAMES, NO_NAMES, S

FORWARD = ("forward", (("a", "self"),), "super")
REFLECTED = ("reflected", (), "decline")
INPLACE = ("inplace", (("b", "a"), ("a", "other")), "super")


def family():
    """d is below c, c below b, b below a; e stands alone."""
    return Book([
        ("a", None, (FORWARD, INPLACE)),
        ("b", "a", (REFLECTED,)),
        ("e", None, ()),
        ("c", "b", (("forward", (), "decline"),)),
        ("d", "c", ()),
    ])


class Names(unittest.TestCase):
    def test_one_to_six_letters_are_a_name(self):
        for value in NAMES:
            with self.subTest(value):
                self.assertIs(is_name(value), True)

    def test_nothing_else_is_one(self):
        for value in NO_NAMES:
            with self.subTest(repr(value)[:40]):
                self.assertIs(is_name(value=value), False)

    def test_every_sign_that_is_no_letter(self):
        for code in [10] + list(range(32, 127)):
            letter = 97 <= code <= 122
            for word in (chr(code), "a" + chr(code), chr(code) + "a", "a" + chr(code) + "z"):
                self.assertIs(is_name(word), letter, repr(word))


class TheBook(unittest.TestCase):
    def test_classes_in_the_order_of_the_entries(self):
        self.assertEqual(family().classes(), ["a", "b", "e", "c", "d"])
        self.assertEqual(Book().classes(), [])
        self.assertEqual(Book(entries=(S, N)).classes(), ["s", "n"])

    def test_bases_go_up(self):
        self.assertEqual(family().bases("d"), ["d", "c", "b", "a"])
        self.assertEqual(family().bases(name="a"), ["a"])
        self.assertEqual(family().bases("e"), ["e"])

    def test_belongs(self):
        book = family()
        up = {name: book.bases(name) for name in book.classes()}
        for name in book.classes():
            for other in book.classes():
                self.assertIs(book.belongs(name, other), other in up[name])
        self.assertIs(book.belongs(name="b", other="d"), False)

    def test_the_method_of_a_class_is_that_of_the_nearest_class(self):
        book = family()
        self.assertEqual(book.method("a", "forward"), ("a", (("a", "self"),), "super"))
        self.assertEqual(book.method("b", "forward"), ("a", (("a", "self"),), "super"))
        self.assertEqual(book.method("c", "forward"), ("c", (), "decline"))
        self.assertEqual(book.method("d", "forward"), ("c", (), "decline"))
        self.assertEqual(book.method("d", "reflected"), ("b", (), "decline"))
        self.assertEqual(book.method(name="d", side="inplace"), ("a", (("b", "a"), ("a", "other")), "super"))

    def test_there_may_be_no_method(self):
        book = family()
        self.assertIsNone(book.method("a", "reflected"))
        for side in ("forward", "reflected", "inplace"):
            self.assertIsNone(book.method("e", side))

    def test_any_other_value_is_no_side(self):
        for side in NO_NAMES + ["Forward", "forward ", "decline", ("forward",), ["forward"]]:
            self.assertIsNone(family().method("a", side))

    def test_any_value_may_be_asked_for(self):
        book = family()
        for value in NO_NAMES + ["f", "ab", "aa"]:
            self.assertIs(value in book, False)
        for value in book.classes():
            self.assertIs(value in book, True)
        self.assertIs("a" in Book(), False)

    def test_no_class_for_the_first_value_that_is_none(self):
        book = family()
        for value in NO_NAMES + ["f"]:
            for ask in (
                lambda: book.bases(value),
                lambda: book.method(value, "forward"),
                lambda: book.method(value, value),
                lambda: book.belongs(value, "a"),
                lambda: book.belongs("a", value),
                lambda: book.belongs(value, "x"),
            ):
                with self.assertRaises(NoClass) as caught:
                    ask()
                self.assertEqual(caught.exception.name, value)

    def test_lists_are_new_and_arguments_are_not_kept(self):
        entries = [N, M]
        book = Book(entries)
        entries.append(S)
        entries[0] = ("x", None, ())
        self.assertEqual(book.classes(), ["n", "m"])
        book.classes().append("s")
        book.bases("m").append("s")
        self.assertEqual(book.classes(), ["n", "m"])
        self.assertEqual(book.bases("m"), ["m", "n"])
        self.assertEqual(Book([S]).classes(), ["s"])


if __name__ == "__main__":
    unittest.main()
