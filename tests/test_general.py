"""Point 2 for the whole program: the interface, new lists, arguments that stay, and the same answer each time."""

import copy
import importlib
import inspect
import random
import unittest

from eitherside.answers import answer, is_prior, outcome
from eitherside.books import Book
from eitherside.desk import Desk
from eitherside.free import twists, unfree
from eitherside.lates import unquiet, unsure
from eitherside.lefts import answering, idle, left_outcomes, left_parting
from eitherside.looker import holds
from eitherside.orders import closure, disorder
from eitherside.papers import paper_of
from eitherside.patterns import ends, is_pattern, matches, read_pattern, rows, show_pattern, steps
from eitherside.registry import Registry
from eitherside.repairs import is_sound, repair
from eitherside.rows import bracketing, bracketings, counts, left_sum, outcome_of, rank_of, unfree_row
from eitherside.spans import example, outcomes, parting, spans
from eitherside.tables import Table
from eitherside.trees import is_tree, is_turn, leaves, left_tree, read_tree, show_tree, turned
from helper import M, N, S, many, random_entries, random_pattern, random_table, row_of, small_book, some

FUNCTIONS = {
    "books": ["is_name(value)"],
    "answers": [
        "answer(book, left, right, *, inplace=False)",
        "outcome(book, left, right, *, inplace=False)",
        "is_prior(book, left, right)",
    ],
    "trees": [
        "is_tree(value)", "leaves(tree)", "left_tree(row)", "turned(tree)", "is_turn(tree, other)", "show_tree(tree)",
        "read_tree(text)",
    ],
    "rows": [
        "outcome_of(table, tree)", "left_sum(book, row, *, inplace=False)", "counts(table, row)",
        "bracketing(table, row, outcome, *, rank=0)", "bracketings(table, row, outcome)", "rank_of(table, tree)",
        "unfree_row(table, row)",
    ],
    "patterns": [
        "is_pattern(value)", "show_pattern(pattern)", "read_pattern(text)", "matches(pattern, row)", "rows(pattern)",
        "steps(pattern)", "ends(pattern)",
    ],
    "lefts": [
        "left_outcomes(book, pattern, *, inplace=False)", "answering(book, pattern, place, *, inplace=False)",
        "idle(book, pattern, *, inplace=False)", "left_parting(book, other, pattern, *, inplace=False)",
    ],
    "spans": [
        "spans(table, pattern)", "outcomes(table, pattern)", "example(table, pattern, outcome)",
        "parting(table, other, pattern)",
    ],
    "free": ["twists(table, pattern)", "unfree(table, pattern)"],
    "orders": ["closure(table, classes)", "disorder(table, classes)"],
    "lates": ["unsure(book, left, right)", "unquiet(book, left, right)"],
    "repairs": ["is_sound(table, pattern)", "repair(table, pattern, *, most=2)"],
    "papers": ["paper_of(table, claim)"],
    "looker": ["holds(table, claim, paper)"],
}

METHODS = {
    ("books", "Book", "(entries=())"): [
        "entries(self)", "classes(self)", "bases(self, name)", "belongs(self, name, other)", "method(self, name, side)",
        "table(self)", "with_entries(self, *entries)", "__contains__", "__eq__", "__len__", "__str__", "__repr__",
    ],
    ("tables", "Table", "(classes, sums)"): [
        "classes(self)", "sum_of(self, left, right)", "changed(self, *changes)", "__getitem__", "__eq__", "__len__",
        "__repr__",
    ],
    ("registry", "Registry", "(book=None)"): [
        "tell(self, name, base=None, *, methods=())", "set_method(self, name, method)", "drop_method(self, name, side)",
        "undo(self)", "trial(self)", "attempt(self, function)", "twin(self)", "__len__", "__repr__",
    ],
    ("desk", "Desk", "()"): ["say(self, command)"],
}

ERRORS = {
    "NoBook": (ValueError, ["position"]),
    "NoClass": (KeyError, ["name"]),
    "NoRow": (ValueError, ["row"]),
    "NoTree": (ValueError, ["tree"]),
    "NoPattern": (ValueError, ["pattern"]),
    "NoOutcome": (LookupError, ["outcome"]),
    "NoRank": (IndexError, ["rank"]),
    "NoChange": (ArithmeticError, ["change"]),
    "NoClaim": (ValueError, ["claim"]),
    "NoText": (ValueError, ["position"]),
    "NoCommand": (TypeError, []),
    "NothingToUndo": (RuntimeError, []),
}


def module(name):
    return importlib.import_module("eitherside." + name)


class Interface(unittest.TestCase):
    def test_functions_stand_in_their_files_with_their_arguments(self):
        for file, functions in FUNCTIONS.items():
            for told in functions:
                name = told.partition("(")[0]
                function = vars(module(file))[name]
                self.assertTrue(inspect.isfunction(function))
                self.assertEqual(function.__module__, "eitherside." + file)
                self.assertEqual(name + str(inspect.signature(function)), told)

    def test_methods_stand_in_their_classes_with_their_arguments(self):
        for (file, name, told), methods in METHODS.items():
            made = vars(module(file))[name]
            self.assertEqual(made.__module__, "eitherside." + file)
            self.assertEqual(str(inspect.signature(made)), told)
            for method in methods:
                name = method.partition("(")[0]
                self.assertIn(name, vars(made))
                if "(" in method:
                    self.assertEqual(name + str(inspect.signature(vars(made)[name])), method)
        self.assertIsInstance(vars(Book)["from_text"], classmethod)
        self.assertEqual(str(inspect.signature(Book.from_text)), "(text)")
        self.assertEqual(Book.LIMIT, 10)
        for name in ("book", "version"):
            self.assertIsInstance(vars(Registry)[name], property)

    def test_errors(self):
        for name, (base, fields) in ERRORS.items():
            made = vars(module("errors"))[name]
            self.assertEqual((made.__module__, made.__bases__), ("eitherside.errors", (base,)))
            self.assertEqual(list(inspect.signature(made).parameters), fields)
            self.assertEqual(vars(made(**{field: [field] for field in fields})), {field: [field] for field in fields})

    def test_the_examples_of_the_document(self):
        book = Book([N, M, S])
        table = book.table()
        told = [([("m", "reflected", ("m", "reflected", 0))], "m"), ([("m", "forward", None)], None)]
        self.assertEqual([answer(book, "n", "m"), answer(book, "m", "s")], told)
        told = [[("m", 5)], [(None, 2)], ("n", ("m", "n"))]
        found = [counts(table, ("n", "m", "n", "n")), counts(table, ("n", "s", "n"))]
        self.assertEqual(found + [bracketing(table, ("n", "m", "n"), "m")], told)
        self.assertIs(holds(table, ("free", ("many", ("one", "n"))), ([(0, 1, "n"), (1, 1, "n")], [])), True)
        claim = ("broken", ("row", (("one", "n"), ("one", "s"))), 0)
        self.assertIs(holds(table, claim, ((("n", "s"),), ())), True)


def changed_within(value):
    """Changes every list in a value."""
    if isinstance(value, (list, tuple)):
        for part in value:
            changed_within(part)
    if isinstance(value, list):
        value.append("changed")


def questions(chance):
    """Functions with their arguments by name, for everything that returns a value."""
    names = ["a", "b", "c"]
    book = Book(random_entries(chance, names))
    other = Book(random_entries(chance, names))
    table, changed = book.table(), random_table(chance, names)
    pattern = random_pattern(chance, names, 3)
    row = tuple(chance.choice(names) for _ in range(5))
    tree = left_tree(row)
    pair = {"left": chance.choice(names), "right": chance.choice(names)}
    operands = {"left": (chance.choice(names), True), "right": (chance.choice(names), chance.random() < 0.5)}
    inplace = chance.random() < 0.5
    claims = [("free", pattern), ("never", pattern, "a"), ("orderless", ("a", "b")), ("broken", pattern, 1)]
    claim = chance.choice(claims)
    about = {"table": changed, "pattern": pattern}
    asked = {"book": book, "pattern": pattern, "inplace": inplace}
    yield from [
        (answer, {"book": book, "inplace": inplace, **pair}), (outcome, {"book": book, "inplace": inplace, **pair}),
        (is_prior, {"book": book, **pair}), (is_tree, {"value": tree}), (leaves, {"tree": tree}),
        (left_tree, {"row": row}), (turned, {"tree": tree}), (is_turn, {"tree": tree, "other": turned(tree)[0]}),
        (show_tree, {"tree": tree}), (read_tree, {"text": show_tree(tree)}),
        (outcome_of, {"table": table, "tree": tree}),
        (left_sum, {"book": book, "row": row, "inplace": inplace}), (counts, {"table": changed, "row": row}),
        (bracketing, {"table": changed, "row": row, "outcome": outcome_of(changed, tree), "rank": 0}),
        (bracketings, {"table": changed, "row": row, "outcome": None}), (rank_of, {"table": changed, "tree": tree}),
        (unfree_row, {"table": changed, "row": row}), (is_pattern, {"value": pattern}),
        (show_pattern, {"pattern": pattern}), (read_pattern, {"text": show_pattern(pattern)}),
        (matches, {"pattern": pattern, "row": row}), (steps, {"pattern": pattern}), (ends, {"pattern": pattern}),
        (left_outcomes, asked), (answering, {"place": ("a", "forward", 0), **asked}), (idle, asked),
        (left_parting, {"other": other, **asked}), (spans, about), (outcomes, about),
        (example, {"outcome": None, **about}), (parting, {"other": table, **about}), (twists, about), (unfree, about),
        (closure, {"table": changed, "classes": ["b", "a"]}),
        (disorder, {"table": changed, "classes": ("b", "a", "b")}),
        (unsure, {"book": book, **operands}), (unquiet, {"book": book, **operands}), (is_sound, about),
        (repair, {"most": 1, **about}), (paper_of, {"table": changed, "claim": claim}),
        (holds, {"table": changed, "claim": claim, "paper": paper_of(changed, claim)}),
        (book.entries, {}), (book.classes, {}), (book.bases, {"name": "c"}),
        (book.belongs, {"name": "c", "other": "a"}),
        (book.method, {"name": "c", "side": "forward"}), (book.table, {}), (Book.from_text, {"text": str(book)}),
        (Book, {"entries": book.entries()}), (table.classes, {}), (table.sum_of, pair),
        (Table, {"classes": ("a",), "sums": {("a", "a"): None}}),
    ]


def told(function, named):
    """What the function returns; a generator as a list."""
    found = function(**named)
    return list(found) if inspect.isgenerator(found) else found


class General(unittest.TestCase):
    def test_arguments_stay_and_lists_are_new(self):
        chance = random.Random(171)
        for _ in range(60):
            for function, named in questions(chance):
                before = copy.deepcopy(named)
                found = told(function, named)
                kept = copy.deepcopy(found)
                self.assertEqual(named, before, function)
                changed_within(found)
                self.assertEqual(named, before, function)
                self.assertEqual(told(function, named), kept, function)
                self.assertEqual(told(function, before), kept, function)

    def test_changed_arguments_change_nothing(self):
        entries = [N, M, S]
        book = Book(entries)
        entries.clear()
        self.assertEqual(book, small_book())
        sums = {("a", "a"): "a"}
        table = Table(("a",), sums)
        sums.clear()
        self.assertEqual(table["a", "a"], "a")
        registry = Registry(book)
        registry.tell("a")
        self.assertEqual(book, small_book())

    def test_generators_start_anew(self):
        pattern = many(some("n", "m"))
        first, second = rows(pattern), rows(pattern=pattern)
        self.assertEqual([next(first) for _ in range(9)], [next(second) for _ in range(9)])

    def test_books_and_tables_are_equal_to_nothing_else(self):
        book = small_book()
        table = book.table()
        empty = Book()
        for value in (None, 0, 3, True, "", str(book), [], book.entries(), (), table, {}, Desk(), Registry(book)):
            for mine in (book, empty, empty.table(), table):
                if mine is not value:
                    self.assertFalse(mine == value)
                    self.assertTrue(mine != value)
        self.assertEqual(table, book.table())
        self.assertEqual(book, Book(tuple(book.entries())))

    def test_any_value_where_one_is_allowed(self):
        items = ["n"]
        for _ in range(11):
            items = [items, tuple(items)]
        deep = [[[[[[[[[[[["n"] * 2000]]]]]]]]]]]
        table = small_book().table()
        asked = (is_tree, is_pattern, lambda value: value in small_book(), lambda value: matches(many("n"), value))
        values = [items, tuple(items), deep, "n" * 2000, "\n" * 2000, -(10 ** 40) + 1, ["~"] * 3000, [(), [], None]]
        for value in values:
            for ask in asked:
                self.assertIs(ask(value), False)
            self.assertIs(holds(table, ("free", many("n")), value), False)
            self.assertIs(holds(table, ("broken", row_of("n", "s"), 0), value), False)
            self.assertIsNone(example(table, many("n"), value))


if __name__ == "__main__":
    unittest.main()
