"""Points 4, 5, 8, 9, 11, 21 and 22: the commands of the desk."""

import random
import unittest

from eitherside.answers import answer
from eitherside.books import Book
from eitherside.desk import Desk
from eitherside.errors import NoBook, NoClass, NoCommand, NoPattern, NothingToUndo, NoTree
from eitherside.free import unfree
from eitherside.patterns import show_pattern
from eitherside.rows import outcome_of
from eitherside.trees import read_tree, show_tree
from helper import (
    NO_NAMES,
    bracketings,
    chain_by_turns,
    classes_of,
    error_of,
    many,
    one,
    random_entries,
    random_pattern,
    row_of,
    small_book,
    with_bottom,
)

SMALL = [
    "class n",
    "method n forward decline n=self",
    "class m n",
    "method m reflected decline n=self",
    "class s",
]


def desk_after(*commands):
    desk = Desk()
    for command in commands:
        desk.say(command)
    return desk


def commands_of(entries):
    """The commands that tell these entries."""
    found = [" ".join(["class", name] + ([base] if base else [])) for name, base, _ in entries]
    for name, _, methods in entries:
        for side, cases, ending in methods:
            found.append(" ".join(["method", name, side, ending] + [f"{left}={right}" for left, right in cases]))
    return found


class Commands(unittest.TestCase):
    def test_a_book_by_hand(self):
        desk = Desk()
        self.assertEqual(desk.say("book"), "empty")
        self.assertEqual([desk.say(command) for command in SMALL], [f"version {k}" for k in range(1, 6)])
        text = "class n / forward decline n=self / class m n / reflected decline n=self / class s"
        self.assertEqual(desk.say(command="book"), text)
        self.assertEqual(desk.say("drop m reflected"), "version 6")
        self.assertEqual(desk.say("drop m reflected"), "version 6")
        self.assertEqual(desk.say("drop m forward"), "version 6")
        self.assertEqual(desk.say("book"), "class n / forward decline n=self / class m n / class s")
        self.assertEqual(desk.say("undo"), "version 7")
        self.assertEqual(desk.say("book"), text)
        self.assertEqual(desk.say("method n forward decline n=self"), "version 7")

    def test_undo_to_the_beginning(self):
        desk = desk_after("class n", "class m")
        self.assertEqual([desk.say("undo"), desk.say("undo"), desk.say("book")], ["version 3", "version 4", "empty"])
        self.assertRaises(NothingToUndo, desk.say, "undo")
        self.assertEqual(desk.say("class n"), "version 5")

    def test_methods_with_any_number_of_cases(self):
        desk = desk_after("class n", "class m n")
        desk.say("method m inplace super")
        desk.say("method n forward decline" + " m=other" * 6)
        text = "class n / forward decline" + " m=other" * 6 + " / class m n / inplace super"
        self.assertEqual(desk.say("book"), text)
        self.assertEqual(error_of(NoBook, lambda: desk.say("method m forward super" + " n=n" * 7)).position, 1)
        self.assertEqual(error_of(NoBook, lambda: desk.say("method n forward super" + " n=n" * 300)).position, 0)

    def test_sums(self):
        desk = desk_after(*SMALL)
        self.assertEqual(desk.say("sum n"), "n")
        self.assertEqual(desk.say("sum (n (m n))"), "m")
        self.assertEqual(desk.say("sum (m s)"), "raises")
        self.assertEqual(desk.say("sum (n (m s))"), "raises")
        table = small_book().table()
        for tree in bracketings(("n", "m", "m", "n", "s")) + bracketings(("n", "m", "m", "n")):
            self.assertEqual(desk.say("sum " + show_tree(tree)), outcome_of(table, tree) or "raises")

    def test_a_deep_sum(self):
        desk = desk_after(*[f"class {name}" for name in "abcd"])
        desk.say("method a forward decline a=self b=self c=self d=self")
        for name in "bcd":
            desk.say(f"method {name} forward decline a=other")
        tree = chain_by_turns(300)
        self.assertEqual(desk.say("sum " + show_tree(tree)), "a")

    def test_asking(self):
        desk = desk_after(*SMALL)
        self.assertEqual(desk.say("ask n n"), "n forward yes")
        self.assertEqual(desk.say("ask n m"), "m reflected yes")
        self.assertEqual(desk.say("ask m s"), "m forward no")
        self.assertEqual(desk.say("ask s m"), "m reflected no")
        self.assertEqual(desk.say("ask s s"), "nobody")
        desk.say("method s reflected decline n=other")
        self.assertEqual(desk.say("ask n s"), "n forward no; s reflected yes")

    def test_free(self):
        desk = desk_after(*SMALL)
        self.assertEqual(desk.say("free n"), "free")
        self.assertEqual(desk.say("free (n|m|s)+"), "free")
        desk.say("method n forward decline n=s s=n")
        found = desk.say("free n+")
        texts = found.split(" / ")
        self.assertEqual(len(texts), 2)
        trees = tuple(read_tree(text) for text in texts)
        self.assertEqual(trees, unfree(desk_book(desk).table(), many("n")))

    def test_books_tables_and_patterns_at_random(self):
        chance = random.Random(161)
        for _ in range(60):
            names = ["a", "bc", "def"][: chance.randrange(1, 4)]
            entries = random_entries(chance, names)
            desk = desk_after(*commands_of(entries))
            book = Book(entries)
            self.assertEqual(desk.say("book"), " / ".join(str(book).split("\n")))
            self.assertEqual(desk_book(desk), book)
            for left in names:
                for right in names:
                    attempts = answer(book, left, right)[0]
                    said = [f"{name} {side} {'yes' if place else 'no'}" for name, side, place in attempts]
                    self.assertEqual(desk.say(f"ask {left} {right}"), "; ".join(said) or "nobody")
                    self.assertEqual(desk.say(f"sum ({left} {right})"), book.table()[left, right] or "raises")
            pattern = random_pattern(chance, names, 4)
            if len(classes_of(pattern)) <= 12:
                trees = unfree(book.table(), pattern)
                said = "free" if trees is None else " / ".join(map(show_tree, trees))
                self.assertEqual(desk.say("free " + show_pattern(pattern)), said)


def desk_book(desk):
    """The book of the desk, as it says it."""
    text = desk.say("book")
    return Book() if text == "empty" else Book.from_text(text.replace(" / ", "\n"))


class Errors(unittest.TestCase):
    def check(self, kind, command):
        """The error, after which the desk is as before."""
        desk = desk_after(*SMALL)
        error = error_of(kind, lambda: desk.say(command))
        self.assertEqual(desk_book(desk), small_book())
        self.assertEqual(desk.say("class zz"), "version 6")
        return error

    def test_what_the_methods_and_functions_raise(self):
        for command in ("class n", "class s", "class a b", "class a a", "class n n"):
            self.assertEqual(self.check(NoBook, command).position, 3)
        for command, at in (
            ("method n forward decline a=self", 0), ("method s inplace super n=a", 2),
            ("method m forward super" + " n=n" * 7, 1), ("method n inplace super" + " a=z" * 9, 0),
        ):
            self.assertEqual(self.check(NoBook, command).position, at)
        for command in ("method a forward decline", "method a forward decline a=b", "drop a forward"):
            self.assertEqual(self.check(NoClass, command).name, "a")
        self.assertEqual(self.check(NoClass, "ask a b").name, "a")
        self.assertEqual(self.check(NoClass, "ask n b").name, "b")
        self.assertEqual(self.check(NoTree, "sum a").tree, "a")
        self.assertEqual(self.check(NoTree, "sum (n (m a))").tree, ("n", ("m", "a")))
        self.assertEqual(self.check(NoPattern, "free a").pattern, one("a"))
        self.assertEqual(self.check(NoPattern, "free (n a)+").pattern, many(row_of("n", "a")))
        desk = Desk()
        self.assertRaises(NothingToUndo, desk.say, "undo")
        self.assertEqual(error_of(NoTree, lambda: desk.say("sum n")).tree, "n")

    def test_an_eleventh_class(self):
        desk = desk_after(*[f"class {name}" for name in "abcdefghij"])
        self.assertEqual(error_of(NoBook, lambda: desk.say("class k")).position, -1)

    def test_strings_that_are_no_commands(self):
        wrong = [
            "", " ", "class", "class ", "class A", "class self", "class n ", "class  n", " class n", "class n m s",
            "class a self", "class abcdefg", "class a\n", "class\na", "Class a", "classes", "class a other",
            "class a super",
            "class a raises", "class a n=n", "class (a", "class a None",
            "method", "method n", "method n forward", "method n decline forward", "method n sideways decline",
            "method n forward declines", "method n forward decline n", "method n forward decline n=",
            "method n decline",
            "method n forward decline =n", "method n forward decline n=n=n", "method n forward decline n = n",
            "method n forward decline  n=n", "method n forward decline n=n ", "method N forward decline",
            "method self forward decline", "method n forward decline self=n", "method n forward decline n=super",
            "method n forward decline n=raises", "method n forward decline abcdefg=n", "method forward decline n=n",
            "method n class n", "method n forward super n=N", "method  n forward decline", "method n  forward decline",
            "method n forward  decline", "method n class n m", "method n n forward decline", "method class n",
            "drop", "drop n", "drop n ", "drop n sideways", "drop n forward ", "drop n  forward",
            "drop n forward decline",
            "drop N forward", "drop forward n", "drop self forward",
            "undo ", " undo", "undo undo", "undo 1", "Undo", "undo\n", "undos",
            "sum", "sum ", "sum  n", "sum n ", "sum n n", "sum (n n", "sum (n  n)", "sum ( n n)", "sum (n n) ",
            "sum n)",
            "sum (n n n)", "sum (n)", "sum N", "sum ()", "sum self", "sum (n\nn)", "sum n+", "sum (n|n)", "sum\nn",
            "ask", "ask n", "ask n ", "ask n n n", "ask n  n", "ask n n ", "ask N n", "ask n (n n)", "ask self n",
            "ask n other",
            "free", "free ", "free  n", "free n ", "free (n)", "free (n|n", "free n|n", "free n n", "free (n  n)",
            "free (n n|n)",
            "free +", "free N", "free (n n n n n)", "free (n|n|n|n|n)", "free n ++", "free n+ +", "free self",
            "free ()+",
            "free n" + "+" * 6, "free ((n n n n) (n n n n) (n n n n) n)", "free n" + "+" * 1900, "free " + "(" * 1900,
            "free (n| n)", "free (n |n)", "free (n n )",
            "book ", " book", "book n", "books", "Book", "book\n", "empty", "version", "n", "(n n)", "\n", "help",
            "say book",
            "ask", "a" * 2000, " " * 2000, "sum " + "(" * 1900, "class " + "n " * 900,
        ]
        for command in wrong:
            self.check(NoCommand, command)

    def test_texts_at_the_bounds_are_commands(self):
        desk = desk_after(*SMALL)
        for text in ("n" + "+" * 5, "((n n n n) (n n n n) (n n n n))", "(n|n|n|n)", "(n n n n)+"):
            self.assertEqual(desk.say("free " + text), "free")

    def test_values_that_are_no_strings(self):
        values = [value for value in NO_NAMES if not isinstance(value, str)]
        others = [b"book", ["book"], ("book",), {"book": 1}, ["class", "n"], object(), 1.5]
        for value in values + others + [with_bottom(3000, "n", "left")]:
            self.check(NoCommand, value)

    def test_the_error_has_no_fields(self):
        error = error_of(NoCommand, lambda: Desk().say("help"))
        self.assertIsInstance(error, TypeError)

    def test_a_command_is_checked_before_what_it_says(self):
        # the class is unknown, too, but this is no command
        self.check(NoCommand, "method a forward decline n")
        self.check(NoCommand, "ask a B")
        self.check(NoCommand, "sum (a b")
        self.check(NoCommand, "drop a sideways")


class General(unittest.TestCase):
    def test_two_desks_share_nothing(self):
        desk = desk_after("class n")
        self.assertEqual(Desk().say("book"), "empty")
        self.assertEqual(desk.say("book"), "class n")


if __name__ == "__main__":
    unittest.main()
