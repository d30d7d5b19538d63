"""Points 3, 4, 5, 7, 8 and 17: what later classes can change."""

import copy
import itertools
import random
import unittest

from eitherside.books import Book, is_name
from eitherside.errors import NoBook, NoClass
from eitherside.lates import unquiet, unsure
from helper import (
    NO_NAMES,
    WideBook,
    error_of,
    python_places,
    random_entries,
    small_book,
    with_bottom,
)

SIDES = ("forward", "reflected", "inplace")
LATE = ["late", "later", "latest"]
FORWARD, REFLECTED, INPLACE = SIDES


def book_of(*rows):
    return Book.from_text("\n".join(rows))


def chain_of(entries, name):
    """The class, its base, and so on, from the entries."""
    bases = {one: base for one, base, _ in entries}
    chain = [name]
    while bases[chain[-1]] is not None:
        chain.append(bases[chain[-1]])
    return chain


def members_of(entries, operand):
    name, is_open = operand
    return [one for one, _, _ in entries if name in chain_of(entries, one)] if is_open else [name]


def member_pairs(entries, left, right):
    return list(itertools.product(members_of(entries, left), members_of(entries, right)))


def is_parting(entries, left, right):
    """Whether members are answered at different places."""
    places = python_places(entries)
    return len({places[pair] for pair in member_pairs(entries, left, right)}) > 1


def drawn_extension(chance, book, operands):
    """Any extension, of classes that have to do with the operands most of the time."""
    names = LATE[: chance.randrange(1, 4)]
    known = book.classes() + names
    entries = book.entries()
    for name in names:
        below = [one for operand in operands for one in members_of(entries, (operand[0], True))]
        base = chance.choice(below + [None, chance.choice([one for one, _, _ in entries])])
        methods = []
        for side in SIDES:
            if chance.random() < 0.7:
                arguments = [chance.choice(known + [operand[0] for operand in operands] * 2) for _ in range(3)]
                cases = tuple((argument, chance.choice([*known, "self", "other"])) for argument in arguments)
                methods.append((side, cases[: chance.randrange(4)], chance.choice(["decline", "super"])))
        entries.append((name, base, tuple(methods)))
    return entries[len(book):]


def extensions_without_methods(book, most):
    """All of them with at most so many classes, but for their names."""
    found = [[]]
    for extension in found:
        yield extension
        if len(extension) < most:
            bases = [None] + book.classes() + [name for name, _, _ in extension]
            found.extend([extension + [(LATE[len(extension)], base, ())] for base in bases])


def questions(chance, number, most=4):
    """Books with pairs of operands."""
    for _ in range(number):
        names = ["a", "b", "c", "d", "e", "f"][: chance.randrange(1, most + 1)]
        book = Book(random_entries(chance, names))
        yield book, *[(chance.choice(names), chance.random() < 0.7) for _ in range(2)]


class Checks(unittest.TestCase):
    def check(self, ask, book, left, right):
        """Whether nothing is found; what is found is checked by the book with the entries and the extension."""
        found = ask(book, left, right)
        if found is None:
            return True
        self.assertIsInstance(found, tuple)
        extension, pair, other = found
        self.assertIsInstance(extension, list)
        for name, base, methods in extension:
            self.assertTrue(is_name(name) and name not in book)
            if ask is unquiet:
                self.assertEqual(methods, ())
        entries = book.entries() + extension
        self.assertEqual(len(WideBook(entries)), len(entries))
        for one in (pair, other):
            self.assertIsInstance(one, tuple)
            self.assertIn(one, member_pairs(entries, left, right))
        places = python_places(entries)
        self.assertNotEqual(places[pair], places[other])
        self.assertEqual(ask(book, left, right), found)
        return False


class Unsure(Checks):
    def test_what_is_returned_and_drawn_extensions(self):
        chance = random.Random(111)
        found = []
        for book, left, right in questions(chance, 250):
            found.append(self.check(unsure, book, left, right))
            for _ in range(12 if found[-1] else 0):
                extension = drawn_extension(chance, book, (left, right))
                self.assertFalse(is_parting(book.entries() + extension, left, right), (book.entries(), left, right))
        self.assertGreater(found.count(True), 8)
        self.assertGreater(found.count(False), 8)

    def test_one_open_operand_over_books_that_may_be_sure(self):
        # classes that do not belong to each other, of which the left one answers
        chance = random.Random(112)
        found = []
        for _ in range(150):
            book = Book(random_entries(chance, "abcd"))
            left, right = ("a", False), (chance.choice("bcd"), True)
            found.append(self.check(unsure, book, left, right))
            for _ in range(15 if found[-1] else 0):
                extension = drawn_extension(chance, book, (left, right))
                self.assertFalse(is_parting(book.entries() + extension, left, right))
        self.assertGreater(found.count(True), 2)
        self.assertGreater(found.count(False), 8)

    def test_closed_operands_are_sure(self):
        for book, left, right in questions(random.Random(113), 60):
            self.assertIsNone(unsure(book, (left[0], False), (right[0], False)))

    def test_an_open_left_class_is_never_sure(self):
        for book, left, right in questions(random.Random(114), 60):
            self.assertFalse(self.check(unsure, book, (left[0], True), right))

    def test_some_by_hand(self):
        rows = ["class n", "forward decline r=self", "class r", "class q r"]
        book = book_of(*rows, "class o", "reflected decline n=self")
        # all that belongs to r is answered by n
        self.assertIsNone(unsure(book, ("n", False), ("r", True)))
        self.assertIsNone(unsure(book=book, left=("n", False), right=("q", True)))
        self.assertFalse(self.check(unsure, book, ("n", True), ("r", True)))
        self.assertFalse(self.check(unsure, book, ("n", True), ("r", False)))
        # a class below o may have another reflected method
        self.assertFalse(self.check(unsure, book, ("n", False), ("o", True)))
        # nothing answers now, but a class below n does later
        self.assertFalse(self.check(unsure, book, ("r", False), ("n", True)))
        self.assertIsNone(unsure(book, ("r", False), ("n", False)))

    def test_late_classes_below_the_left_one_are_prior(self):
        book = book_of("class n", "forward decline n=self", "class m n", "class k m")
        for left, right in itertools.product("nmk", repeat=2):
            self.assertFalse(self.check(unsure, book, (left, False), (right, True)))
            self.assertIsNone(unsure(book, (left, False), (right, False)))

    def test_told_classes_may_be_enough(self):
        book = book_of("class n", "forward decline b=self r=other", "class r", "class b r")
        extension, pair, other = unsure(book, ("n", False), ("r", True))
        self.assertEqual(extension, [])
        self.assertEqual({pair, other}, {("n", "r"), ("n", "b")})

    def test_one_that_raises_and_one_that_is_answered(self):
        book = book_of("class n", "class r", "class b r", "reflected decline n=self")
        self.assertFalse(self.check(unsure, book, ("n", False), ("r", True)))

    def test_methods_in_place_do_not_matter(self):
        book = book_of("class n", "forward decline r=self", "inplace decline b=other", "class r", "class b r")
        self.assertIsNone(unsure(book, ("n", False), ("r", True)))


class Unquiet(Checks):
    def test_all_extensions_with_two_classes(self):
        found = []
        for book, left, right in questions(random.Random(115), 120, 3):
            found.append(self.check(unquiet, book, left, right))
            parting = [
                extension
                for extension in extensions_without_methods(book, 2)
                if is_parting(book.entries() + extension, left, right)
            ]
            self.assertEqual(found[-1], not parting, (book.entries(), left, right))
        self.assertGreater(found.count(True), 8)
        self.assertGreater(found.count(False), 8)

    def test_some_extensions_with_three_classes(self):
        chance = random.Random(116)
        for book, left, right in questions(chance, 150, 5):
            if self.check(unquiet, book, left, right):
                for extension in chance.sample(list(extensions_without_methods(book, 3)), 15):
                    self.assertFalse(is_parting(book.entries() + extension, left, right))

    def test_a_sure_pair_is_quiet(self):
        found = []
        for book, left, right in questions(random.Random(117), 200):
            if unsure(book, left, right) is None:
                self.assertIsNone(unquiet(book, left, right))
            elif self.check(unquiet, book, left, right):
                found.append((left, right))
        self.assertGreater(len(found), 8)

    def test_closed_operands_are_quiet(self):
        for book, left, right in questions(random.Random(118), 60):
            self.assertIsNone(unquiet(book, (left[0], False), (right[0], False)))

    def test_some_by_hand(self):
        book = book_of("class n", "forward decline n=self")
        # whatever is below n without methods is answered as n is
        self.assertIsNone(unquiet(book, ("n", True), ("n", True)))
        self.assertFalse(self.check(unsure, book, ("n", True), ("n", True)))
        self.assertIsNone(unquiet(book=book, left=("n", False), right=("n", True)))

    def test_equal_classes_are_not_asked_twice(self):
        # n + n raises, because n is asked once, but n + late is answered by late
        book = book_of("class n", "reflected decline n=self")
        for left, right in ((True, True), (True, False), (False, True)):
            self.assertFalse(self.check(unquiet, book, ("n", left), ("n", right)))
        extension, pair, other = unquiet(book, ("n", False), ("n", True))
        self.assertEqual([entry[1:] for entry in extension], [("n", ())])
        self.assertEqual(python_places(book.entries())["n", "n"], None)

    def test_a_late_class_may_take_the_priority_away(self):
        # m is below n, so it is asked first for n + m, but it is not below a late class below n
        book = book_of("class n", "forward decline n=self", "class m n", "reflected decline n=self")
        self.assertFalse(self.check(unquiet, book, ("n", True), ("m", False)))
        self.assertIsNone(unquiet(book, ("n", False), ("m", True)))
        self.assertIsNone(unquiet(book, ("n", False), ("m", False)))

    def test_told_classes_may_be_enough(self):
        book = book_of("class n", "forward decline b=self r=other", "class r", "class b r")
        extension, pair, other = unquiet(book, ("n", False), ("r", True))
        self.assertEqual(extension, [])
        self.assertEqual({pair, other}, {("n", "r"), ("n", "b")})


class FullBooks(Checks):
    NAMES = [chr(ord("a") + at) for at in range(10)]

    def test_ten_classes_may_be_extended(self):
        self.assertRaises(NoBook, Book, [(name, None, ()) for name in "abcdefghijk"])
        chance = random.Random(119)
        found = []
        for _ in range(25):
            book = Book(random_entries(chance, self.NAMES))
            left, right = [(chance.choice(self.NAMES), chance.random() < 0.7) for _ in range(2)]
            for ask in (unsure, unquiet):
                found.append(self.check(ask, book, left, right))
                for _ in range(2 if found[-1] else 0):
                    extension = drawn_extension(chance, book, (left, right))
                    if ask is unquiet:
                        extension = [(name, base, ()) for name, base, _ in extension]
                    self.assertFalse(is_parting(book.entries() + extension, left, right))
        self.assertIn(True, found)
        self.assertIn(False, found)

    def test_a_full_book_by_hand(self):
        rows = ["class a", "reflected decline a=self"]
        book = book_of(*rows, *[f"class {name} a" for name in self.NAMES[1:]])
        for name in self.NAMES:
            for ask in (unsure, unquiet):
                self.assertFalse(self.check(ask, book, (name, True), (name, True)))
        rows = ["class a", "forward decline a=self"]
        book = book_of(*rows, *[f"class {name} a" for name in self.NAMES[1:]])
        for name in self.NAMES:
            self.assertIsNone(unquiet(book, (name, True), ("a", True)))
            self.assertFalse(self.check(unsure, book, ("a", False), (name, True)))

    def test_names_of_late_classes(self):
        names = ["late", "later", "lates", "x", "y", "z", "a", "b", "c", "zzzzzz"]
        book = book_of("class late", "reflected decline late=self", *[f"class {name} late" for name in names[1:]])
        for ask in (unsure, unquiet):
            for name in names:
                self.assertFalse(self.check(ask, book, (name, True), (name, True)))


class NoClasses(unittest.TestCase):
    def test_the_first_class_that_the_book_does_not_have(self):
        book = small_book()
        for value in NO_NAMES + ["a", "mn", {"n": 1}, with_bottom(3000, "n", "left")]:
            for ask in (unsure, unquiet):
                for is_open in (True, False):
                    self.assertIs(error_of(NoClass, lambda: ask(book, (value, is_open), ("zz", True))).name, value)
                    self.assertIs(error_of(NoClass, lambda: ask(book, ("n", True), (value, is_open))).name, value)

    def test_a_book_without_classes(self):
        for ask in (unsure, unquiet):
            error = error_of(NoClass, lambda: ask(Book(), ("late", False), ("n", False)))
            self.assertEqual(error.name, "late")


class General(unittest.TestCase):
    def test_nothing_is_kept_or_changed(self):
        for ask in (unsure, unquiet):
            book = book_of("class n", "reflected decline n=self")
            left, right = ("n", True), ("n", True)
            before = copy.deepcopy((book, left, right))
            told = copy.deepcopy(ask(book, left, right))
            ask(book, left, right)[0].clear()
            self.assertEqual(ask(book, left, right), told)
            self.assertEqual((book, left, right), before)


if __name__ == "__main__":
    unittest.main()
