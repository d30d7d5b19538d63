"""Points 2, 4, 5, 6 and 22: names, the entries of books, what books show, and their texts."""

import copy
import itertools
import random
import unittest

from eitherside.answers import answer, is_prior, outcome
from eitherside.books import Book, is_name
from eitherside.errors import NoBook, NoClass, NoText
from eitherside.tables import Table
from helper import M, N, NAMES, NO_NAMES, S, error_of, random_entries, small_book, with_bottom

FORWARD = ("forward", (("a", "self"),), "super")
REFLECTED = ("reflected", (), "decline")
INPLACE = ("inplace", (("b", "a"), ("a", "other")), "super")


def family():
    """d is below c, c below b, b below a; e stands alone."""
    return Book([
        ("a", None, (FORWARD, INPLACE)),
        ("b", "a", (REFLECTED,)),
        ("e", None, ()),
        ("c", "b", (("forward", (), "decline"),)),
        ("d", "c", ()),
    ])


class Names(unittest.TestCase):
    def test_one_to_six_letters_are_a_name(self):
        for value in NAMES:
            with self.subTest(value):
                self.assertIs(is_name(value), True)

    def test_nothing_else_is_one(self):
        for value in NO_NAMES:
            with self.subTest(repr(value)[:40]):
                self.assertIs(is_name(value=value), False)

    def test_every_sign_that_is_no_letter(self):
        for code in [10] + list(range(32, 127)):
            letter = 97 <= code <= 122
            for word in (chr(code), "a" + chr(code), chr(code) + "a", "a" + chr(code) + "z"):
                self.assertIs(is_name(word), letter, repr(word))


class TheBook(unittest.TestCase):
    def test_classes_in_the_order_of_the_entries(self):
        self.assertEqual(family().classes(), ["a", "b", "e", "c", "d"])
        self.assertEqual(Book().classes(), [])
        self.assertEqual(Book(entries=(S, N)).classes(), ["s", "n"])

    def test_bases_go_up(self):
        self.assertEqual(family().bases("d"), ["d", "c", "b", "a"])
        self.assertEqual(family().bases(name="a"), ["a"])
        self.assertEqual(family().bases("e"), ["e"])

    def test_belongs(self):
        book = family()
        up = {name: book.bases(name) for name in book.classes()}
        for name in book.classes():
            for other in book.classes():
                self.assertIs(book.belongs(name, other), other in up[name])
        self.assertIs(book.belongs(name="b", other="d"), False)

    def test_the_method_of_a_class_is_that_of_the_nearest_class(self):
        book = family()
        self.assertEqual(book.method("a", "forward"), ("a", (("a", "self"),), "super"))
        self.assertEqual(book.method("b", "forward"), ("a", (("a", "self"),), "super"))
        self.assertEqual(book.method("c", "forward"), ("c", (), "decline"))
        self.assertEqual(book.method("d", "forward"), ("c", (), "decline"))
        self.assertEqual(book.method("d", "reflected"), ("b", (), "decline"))
        self.assertEqual(book.method(name="d", side="inplace"), ("a", (("b", "a"), ("a", "other")), "super"))

    def test_there_may_be_no_method(self):
        book = family()
        self.assertIsNone(book.method("a", "reflected"))
        for side in ("forward", "reflected", "inplace"):
            self.assertIsNone(book.method("e", side))

    def test_any_other_value_is_no_side(self):
        for side in NO_NAMES + ["Forward", "forward ", "decline", ("forward",), ["forward"]]:
            self.assertIsNone(family().method("a", side))

    def test_any_value_may_be_asked_for(self):
        book = family()
        for value in NO_NAMES + ["f", "ab", "aa"]:
            self.assertIs(value in book, False)
        for value in book.classes():
            self.assertIs(value in book, True)
        self.assertIs("a" in Book(), False)

    def test_no_class_for_the_first_value_that_is_none(self):
        book = family()
        for value in NO_NAMES + ["f"]:
            for ask in (
                lambda: book.bases(value),
                lambda: book.method(value, "forward"),
                lambda: book.method(value, value),
                lambda: book.belongs(value, "a"),
                lambda: book.belongs("a", value),
                lambda: book.belongs(value, "x"),
            ):
                with self.assertRaises(NoClass) as caught:
                    ask()
                self.assertEqual(caught.exception.name, value)

    def test_lists_are_new_and_arguments_are_not_kept(self):
        entries = [N, M]
        book = Book(entries)
        entries.append(S)
        entries[0] = ("x", None, ())
        self.assertEqual(book.classes(), ["n", "m"])
        book.classes().append("s")
        book.bases("m").append("s")
        self.assertEqual(book.classes(), ["n", "m"])
        self.assertEqual(book.bases("m"), ["m", "n"])
        self.assertEqual(Book([S]).classes(), ["s"])


def plain(*names):
    return [(name, None, ()) for name in names]


def with_methods(*methods):
    """A book's entries in which the second one has these methods."""
    return [("a", None, ()), ("b", "a", methods), ("c", None, ())]


def position_of(entries):
    return error_of(NoBook, lambda: Book(entries)).position


class Entries(unittest.TestCase):
    def test_they_are_kept_as_they_are(self):
        for entries in ([], [S], [N, M, S], [S, N, M], plain("a", "b", "c")):
            self.assertEqual(Book(entries).entries(), entries)
            self.assertEqual(Book(tuple(entries)).entries(), entries)
            self.assertEqual(Book(entries=entries).entries(), entries)
        self.assertEqual(Book().entries(), [])

    def test_ten_entries_and_eleven(self):
        names = ["a" + letter for letter in "abcdefghijk"]
        self.assertEqual(len(Book(plain(*names[:10]))), 10)
        self.assertEqual(position_of(plain(*names)), -1)
        self.assertEqual(position_of(tuple(plain(*names))), -1)
        self.assertEqual(position_of([None] * 11), -1)
        self.assertEqual(position_of([None] * 10), 0)
        self.assertEqual(Book.LIMIT, 10)
        self.assertEqual(Book().LIMIT, 10)

    def test_a_base_is_an_earlier_entry(self):
        Book([("a", None, ()), ("b", "a", ()), ("c", "a", ()), ("d", "c", ())])
        for entries, position in [
            ([("a", "a", ())], 0),
            ([("a", "b", ()), ("b", None, ())], 0),
            ([("a", None, ()), ("b", "c", ()), ("c", None, ())], 1),
            ([("a", None, ()), ("b", "self", ())], 1),
            ([("a", None, ()), ("b", "", ())], 1),
            ([("a", None, ()), ("b", ("a",), ())], 1),
            ([("a", None, ()), ("b", ["a"], ())], 1),
            ([("a", None, ()), ("b", False, ())], 1),
            ([("a", None, ()), ("b", 0, ())], 1),
        ]:
            self.assertEqual(position_of(entries), position)

    def test_names_are_different(self):
        self.assertEqual(position_of(plain("a", "b", "a")), 2)
        self.assertEqual(position_of(plain("a", "b", "b", "a")), 2)
        self.assertEqual(position_of([("a", None, ()), ("a", "a", ())]), 1)

    def test_methods_may_name_every_class_of_the_book(self):
        method = ("forward", (("c", "c"), ("a", "b"), ("b", "self"), ("c", "other")), "super")
        self.assertEqual(Book(with_methods(method)).method("b", "forward"), ("b",) + method[1:])

    def test_sides_in_order(self):
        sides = ("forward", "reflected", "inplace")
        for many in range(4):
            for chosen in itertools.product(sides, repeat=many):
                entries = with_methods(*[(side, (), "decline") for side in chosen])
                if list(chosen) == [side for side in sides if side in chosen]:
                    self.assertEqual(Book(entries).entries(), entries)
                else:
                    self.assertEqual(position_of(entries), 1)
        self.assertEqual(position_of(with_methods(*[(side, (), "decline") for side in sides + ("forward",)])), 1)

    def test_six_cases_and_seven(self):
        cases = (("a", "b"),) * 6
        Book(with_methods(("forward", cases, "super"), ("inplace", cases, "decline")))
        self.assertEqual(position_of(with_methods(("inplace", cases + cases[:1], "super"))), 1)

    def test_wrong_methods(self):
        case = ("a", "self")
        for methods in [
            None, [], "forward", ("forward",), ("forward", (), "decline"), [("forward", (), "decline")], ((),),
            (None,), 1,
            (["forward", (), "decline"],), (("forward", ()),), (("forward", (), "decline", ()),),
            (("Forward", (), "decline"),), (("right", (), "decline"),), ((None, (), "decline"),),
            ((("forward",), (), "super"),),
            (("forward", (), "Decline"),), (("forward", (), None),), (("forward", (), "raises"),),
            (("forward", (), ""),),
            (("forward", (), ["super"]),), (("forward", [], "decline"),), (("forward", None, "decline"),),
            (("forward", "a", "decline"),), (("forward", case, "decline"),), (("forward", [case], "decline"),),
            (("forward", (["a", "self"],), "decline"),), (("forward", (("a",),), "decline"),),
            (("forward", (("a", "self", "self"),), "decline"),), (("forward", (("z", "self"),), "decline"),),
            (("forward", (("self", "a"),), "decline"),), (("forward", (("other", "a"),), "decline"),),
            (("forward", ((None, "a"),), "decline"),), (("forward", (("a", "z"),), "decline"),),
            (("forward", (("a", None),), "decline"),), (("forward", (("a", "raises"),), "decline"),),
            (("forward", (("a", "super"),), "decline"),), (("forward", (("a", ("a",)),), "decline"),),
            (("forward", (case, ("a", "Self")), "decline"),), (("forward", (case,), "decline"), None),
        ]:
            with self.subTest(repr(methods)):
                entries = [("a", None, ()), ("b", "a", methods), ("c", None, ())]
                self.assertEqual(position_of(entries), 1)

    def test_any_value_in_place_of_any_part(self):
        entries = [N, ("m", "n", (("forward", (("s", "self"),), "super"), ("inplace", (), "decline"))), S]
        values = [value for value in NO_NAMES if value is not None and value != ()]
        values += [{}, with_bottom(3000, "n", "left")]
        for value in values:
            for way in [(0,), (1,), (2,)]:
                self.assertEqual(position_of(replaced(entries, way, value)), way[0])
            for way in itertools.product(range(3), range(3)):
                self.assertEqual(position_of(replaced(entries, way, value)), way[0])
            ways = [(1, 2, 0), (1, 2, 1), (1, 2, 0, 0), (1, 2, 0, 1), (1, 2, 0, 1, 0), (1, 2, 0, 1, 0, 0)]
            if value != "super":
                ways.append((1, 2, 0, 2))
            if value not in ("self", "other"):
                ways.append((1, 2, 0, 1, 0, 1))
            for way in ways:
                self.assertEqual(position_of(replaced(entries, way, value)), 1)
        for way in [(0,), (1,), (0, 0), (1, 0), (1, 2), (1, 2, 0), (1, 2, 0, 1), (1, 2, 0, 1, 0), (1, 2, 0, 1, 0, 0)]:
            self.assertEqual(position_of(replaced(entries, way, None)), way[0])

    def test_no_list_or_tuple(self):
        for value in (None, True, 0, 7, "", "class a", {}, with_bottom(10, "a", "left") + (1,) * 11):
            self.assertEqual(position_of(value), -1)
        for value in (("a", None, ()), "ab"):
            self.assertEqual(position_of([value] if isinstance(value, str) else value), 0)

    def test_the_first_wrong_form_name_or_base_comes_before_all_wrong_methods(self):
        bad = (("forward", (("zz", "self"),), "decline"),)
        self.assertEqual(position_of([("a", None, bad), ("b", None, None)]), 0)
        self.assertEqual(position_of([("a", None, ()), ("b", None, bad), ("c", None, 1)]), 1)
        self.assertEqual(position_of([("a", None, bad), ("b", "x", ())]), 1)
        self.assertEqual(position_of([("a", None, bad), ("b", None, ()), ("a", None, ())]), 2)
        self.assertEqual(position_of([("a", None, bad), ("b", None, ()), ("self", None, bad)]), 2)
        self.assertEqual(position_of([("a", None, bad), ("b", None), 7]), 1)
        self.assertEqual(position_of([("a", None, bad), ("b", None, (), ())]), 1)
        self.assertEqual(position_of([("a", None, bad), ["b", None, ()]]), 1)

    def test_a_wrong_name_makes_it_no_class_for_methods_before(self):
        uses = (("forward", (("b", "self"),), "decline"),)
        self.assertEqual(position_of([("a", None, uses)]), 0)
        self.assertEqual(position_of([("a", None, uses), ("c", None, ())]), 0)
        Book([("a", None, uses), ("b", None, ())])

    def test_what_is_passed_stays_as_it_is(self):
        for entries in ([N, M, S], [N, M, None], [S, S], [("a", None, [["forward", [], "decline"]])]):
            before = copy.deepcopy(entries)
            try:
                Book(entries)
            except NoBook:
                pass
            self.assertEqual(entries, before)


def replaced(whole, way, value):
    """The whole with a value in place of the part to which the way leads."""
    if not way:
        return value
    parts = list(whole)
    parts[way[0]] = replaced(parts[way[0]], way[1:], value)
    return parts if isinstance(whole, list) else tuple(parts)


class WithEntries(unittest.TestCase):
    def test_none_one_and_several(self):
        book = Book([N])
        self.assertEqual(book.with_entries(), book)
        self.assertIsNot(book.with_entries(), book)
        self.assertEqual(book.with_entries(M), Book([N, M]))
        self.assertEqual(book.with_entries(M, S), Book([N, M, S]))
        self.assertEqual(book.with_entries(*plain("a", "b", "c")).classes(), ["n", "a", "b", "c"])
        self.assertEqual(book, Book([N]))
        self.assertEqual(Book().with_entries(S), Book([S]))

    def test_wrong_ones_behind_good_ones(self):
        book = Book([N])
        bad = ("b", None, (("forward", (("zz", "self"),), "decline"),))
        for entries, position in [
            ([None], 1), ([S, None], 2), ([M, N], 2), ([N], 1), ([S, ("a", "zz", ())], 2), ([bad], 1), ([S, bad, M], 2),
            ([bad, None], 2), ([[]], 1), ([()], 1), (["abc"], 1), ([[S]], 1), ([[M, S]], 1),
        ]:
            with self.subTest(repr(entries)):
                self.assertEqual(error_of(NoBook, lambda: book.with_entries(*entries)).position, position)
        self.assertEqual(book.entries(), [N])

    def test_more_than_ten(self):
        book = Book(plain(*"abcdefgh"))
        self.assertEqual(len(book.with_entries(*plain("i", "j"))), 10)
        self.assertEqual(error_of(NoBook, lambda: book.with_entries(*plain("i", "j", "k"))).position, -1)
        self.assertEqual(error_of(NoBook, lambda: book.with_entries(*plain("a", "j", "k"))).position, -1)


class WhatABookShows(unittest.TestCase):
    def test_length_and_repr(self):
        for entries in ([], [S], [N, M], [N, M, S], plain(*"abcdefghij")):
            self.assertEqual(len(Book(entries)), len(entries))
            self.assertEqual(repr(Book(entries)), f"Book({len(entries)} classes)")

    def test_books_with_equal_entries_are_equal(self):
        self.assertEqual(Book([N, M, S]), Book((N, M, S)))
        self.assertEqual(Book(), Book([]))
        self.assertTrue(Book([N, M]) == Book([N, M]))
        self.assertFalse(Book([N, M]) != Book([N, M]))
        other = ("n", None, (("forward", (("n", "self"),), "super"),))
        for one, two in [([N, M], [N]), ([N, S], [S, N]), ([], [S]), ([N], [other]), ([S], plain("n"))]:
            self.assertNotEqual(Book(one), Book(two))
            self.assertTrue(Book(one) != Book(two))

    def test_a_book_is_equal_to_no_value_of_another_kind(self):
        book = small_book()
        for value in NO_NAMES + [[N, M, S], (N, M, S), str(book), repr(book), 3, book.table(), book.classes()]:
            self.assertFalse(book == value)
            self.assertFalse(value == book)
            self.assertTrue(book != value)
        for value in (None, 0, False, "", [], (), Table((), {})):
            self.assertFalse(Book() == value)

    def test_lists_are_new(self):
        book = small_book()
        for ask in (book.entries, book.classes, lambda: book.bases("m"), lambda: book.table().classes()):
            before = ask()
            first = ask()
            self.assertIsNot(ask(), first)
            first.append("x")
            first[0] = "y"
            self.assertEqual(ask(), before)
        self.assertEqual(book, small_book())

    def test_two_books_share_no_state(self):
        entries = [N, M]
        one, two = Book(entries), Book(entries)
        one.entries().clear()
        entries.clear()
        self.assertEqual(two.entries(), [N, M])
        self.assertEqual(one, two)

    def test_the_table_has_the_outcomes_of_the_sums_not_in_place(self):
        chance = random.Random(22)
        for _ in range(40):
            names = chance.sample("abcdefghij", chance.randrange(1, 6))
            book = Book(random_entries(chance, names))
            table = book.table()
            self.assertIsInstance(table, Table)
            self.assertEqual(table.classes(), sorted(names))
            for left, right in itertools.product(names, repeat=2):
                self.assertEqual(table[left, right], outcome(book, left, right))
        self.assertEqual(Book().table(), Table((), {}))
        table = Book([("a", None, (("inplace", (("a", "self"),), "decline"),))]).table()
        self.assertIsNone(table["a", "a"])

    def test_the_answers_hold_over_books_made_in_every_way(self):
        chance = random.Random(23)
        for _ in range(20):
            entries = random_entries(chance, chance.sample("abcdefghij", 4))
            book = Book(entries)
            for other in (Book.from_text(str(book)), Book(entries[:2] + entries[2:]), Book().with_entries(*entries)):
                self.assertEqual(other, book)
                for left, right in itertools.product(book.classes(), repeat=2):
                    self.assertEqual(is_prior(other, left, right), is_prior(book, left, right))
                    for inplace in (False, True):
                        told = answer(book, left, right, inplace=inplace)
                        self.assertEqual(answer(other, left, right, inplace=inplace), told)


TEXT = """class n
forward decline n=self
class m n
reflected decline n=self
class s"""

MANY_METHODS = (
    ("forward", (("ab", "self"), ("ab", "other"), ("ab", "ab")), "super"),
    ("reflected", (), "decline"),
    ("inplace", (), "super"),
)

# each of these is a row of a text, whatever stands around it
ROWS = [
    "class a", "class zzzzzz", "class a b", "class class", "class class class", "class a a", "forward decline",
    "forward super",
    "reflected decline", "inplace super", "forward decline a=b", "inplace super a=self b=other a=a",
    "reflected super x=x",
    "forward decline" + " a=b" * 7, "forward decline" + " a=self" * 40,
]
NO_ROWS = [
    "", " ", "class", "class ", "class  a", " class a", "class a ", "class a  b", "class a b c", "class self",
    "class a self",
    "class A", "class a1", "class abcdefg", "class a super", "class other b", "class raises", "Class a", "a", "a b",
    "class\ta",
    "forward", "forward ", "forward  decline", "forward decline ", " forward decline", "forward decline  a=b",
    "forward raises",
    "forward Decline", "decline forward", "forward decline super", "forward decline a", "forward decline a=",
    "forward decline =a",
    "forward decline a=b=c", "forward decline a= b", "forward decline a =b", "forward decline a=b ",
    "forward decline self=a",
    "forward decline other=a", "forward decline a=super", "forward decline a=raises", "forward decline A=a",
    "forward decline a==b",
    "forward decline a=b,b=a", "sideways decline", "forward decline a=abcdefg", "left super", "forwards super",
    "classa", "class=a",
    "forward decline a=b c", "forward decline class a", "super forward", "self", "class a=b", "forward a=b",
    "forward a=b decline",
]


class Texts(unittest.TestCase):
    def refused(self, text, position):
        with self.subTest(text[:80] if isinstance(text, str) else "no string"):
            self.assertEqual(error_of(NoText, lambda: Book.from_text(text)).position, position)

    def test_how_a_book_is_written(self):
        self.assertEqual(str(small_book()), TEXT)
        self.assertEqual(str(Book()), "")
        self.assertEqual(str(Book([S])), "class s")
        self.assertEqual(
            str(Book([("ab", None, MANY_METHODS)])),
            "class ab\nforward super ab=self ab=other ab=ab\nreflected decline\ninplace super",
        )

    def test_the_book_of_a_text(self):
        self.assertEqual(Book.from_text(TEXT), small_book())
        self.assertEqual(Book.from_text(text="class s"), Book([S]))
        self.assertEqual(Book.from_text("class class\nclass a class"), Book([("class", None, ()), ("a", "class", ())]))
        chance = random.Random(24)
        for _ in range(100):
            book = Book(random_entries(chance, chance.sample("abcdefghij", chance.randrange(0, 8))))
            self.assertEqual(Book.from_text(str(book)), book)
            self.assertEqual(str(Book.from_text(str(book))), str(book))

    def test_the_empty_text(self):
        self.assertEqual(Book.from_text(""), Book())

    def test_no_string(self):
        for value in NO_NAMES + [b"class a", ["class a"], ("class a",), with_bottom(2000, "a", "right")]:
            if not isinstance(value, str):
                self.refused(value, -1)

    def test_each_row(self):
        for row in ROWS:
            # a row alone may be no book, but it is a row: the first wrong row is another one
            self.refused(row + "\n?", 1)
            self.refused("class n\n" + row + "\n", 2)
        for row in NO_ROWS:
            if row:
                self.refused(row, 0)
            self.refused("class n\n" + row, 1)
            self.refused("class n\n" + row + "\nclass m", 1)
            self.refused("class n\nforward decline\n" + row + "\n" + row, 2)

    def test_line_feeds_too_many(self):
        self.refused("\n", 0)
        self.refused("\n\n", 0)
        self.refused(TEXT + "\n", 5)
        self.refused(TEXT + "\n\n", 5)
        self.refused("\n" + TEXT, 0)
        self.refused("class a\n\nclass b", 1)
        self.refused("class a class b", 0)

    def test_spaces_too_many_or_missing(self):
        for at in range(len(TEXT) + 1):
            position = TEXT[:at].count("\n")
            # a space before a line feed stands at the end of the row before it
            self.refused(TEXT[:at] + " " + TEXT[at:], position)
        for at, sign in enumerate(TEXT):
            # without this one it is the text of another book
            if sign == " " and TEXT[:at].split("\n")[-1] != "class m":
                self.refused(TEXT[:at] + TEXT[at + 1:], TEXT[:at].count("\n"))

    def test_rows_that_make_no_book(self):
        for text in [
            "forward decline", "forward decline\nclass a", "class a\nclass a", "class a b", "class a b\nclass b",
            "class a a",
            "class a\nreflected decline\nforward decline", "class a\nforward decline\nforward super",
            "class a\ninplace super\nreflected super", "class a\nforward decline b=a", "class a\nforward decline a=b",
            "class a\nforward decline" + " a=a" * 7, "class a\nforward decline" + " a=self" * 300,
            "\n".join(f"class {letter}" for letter in "abcdefghijk"),
            "class a\nforward decline\nreflected decline\ninplace decline\nforward decline",
        ]:
            self.refused(text, text.count("\n") + 1)
        Book.from_text("class a\nforward decline" + " a=a" * 6)
        Book.from_text("\n".join(f"class {letter}" for letter in "abcdefghij"))
        Book.from_text("class a\nforward decline b=b\nclass b")

    def test_the_first_row_that_is_none_comes_before_all_else(self):
        self.refused("class a\nclass a\nclass A", 2)
        self.refused("forward decline\nforward", 1)
        self.refused("class a b\nsuper\nself", 1)
        self.refused("\n".join(["class a"] * 20 + [""]), 20)


if __name__ == "__main__":
    unittest.main()
