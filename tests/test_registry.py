"""Points 4, 5 and 21: books that change over time, their histories and trials."""

import copy
import random
import unittest

from eitherside.books import Book
from eitherside.errors import NoBook, NoClass, NothingToUndo
from eitherside.registry import Registry
from helper import M, N, NO_NAMES, S, error_of, random_entries, small_book, with_bottom

SIDES = ("forward", "reflected", "inplace")
DECLINES = ("forward", (), "decline")


class Failure(Exception):
    """An error of a caller."""


class Model:
    """The words of point 21, with a stack of what trials began with."""

    def __init__(self, entries=()):
        self.entries = list(entries)
        self.history = []
        self.version = 0
        self.trials = []

    def become(self, entries):
        """Whether the book became a different one."""
        if entries == self.entries:
            return False
        self.entries = entries
        self.version += 1
        return True

    def replace(self, entries):
        before = self.entries
        if self.become(entries):
            self.history.append(before)

    def change(self, name, side, method):
        """Puts the method, or none, in place of that of the side."""
        found = []
        for one, base, methods in self.entries:
            if one == name:
                by_side = {other[0]: other for other in methods}
                by_side[side] = method
                methods = tuple(by_side[other] for other in SIDES if by_side.get(other))
            found.append((one, base, methods))
        self.replace(found)

    def may_undo(self):
        return len(self.history) > (self.trials[-1][1] if self.trials else 0)

    def undo(self):
        self.become(self.history.pop())

    def begin(self):
        self.trials.append((self.entries, len(self.history)))

    def end(self):
        entries, size = self.trials.pop()
        self.become(entries)
        del self.history[size:]


class Checks(unittest.TestCase):
    def same(self, registry, model):
        self.assertEqual(registry.book, Book(model.entries))
        self.assertEqual(registry.version, model.version)
        self.assertEqual(len(registry), len(model.history))
        self.assertEqual(repr(registry), f"Registry({len(model.entries)} classes, version {model.version})")

    def deed(self, chance, registry, model):
        """One call, of which the model makes what the document says."""
        names = [entry[0] for entry in model.entries] or ["a"]
        kind = chance.choice(["tell", "tell", "set", "set", "set", "drop", "undo", "undo"])
        if kind == "tell":
            name, base = chance.choice("abcd"), chance.choice([None, *names])
            if name in [entry[0] for entry in model.entries] or base not in [None] + [e[0] for e in model.entries]:
                at = len(model.entries)
                self.assertEqual(error_of(NoBook, lambda: registry.tell(name, base)).position, at)
                return
            methods = random_entries(chance, [name])[0][2]
            found = registry.tell(name, base, methods=methods)
            model.replace(model.entries + [(name, base, methods)])
        elif kind == "undo":
            if not model.may_undo():
                error_of(NothingToUndo, registry.undo)
                return
            found = registry.undo()
            model.undo()
        else:
            name, side = chance.choice(names), chance.choice(SIDES)
            result = chance.choice(names + ["self"])
            method = (side, ((name, result),) * chance.randrange(2), chance.choice(["decline", "super"]))
            if name not in [entry[0] for entry in model.entries]:
                error_of(NoClass, lambda: registry.drop_method(name, side))
                error_of(NoClass, lambda: registry.set_method(name, method))
                return
            found = registry.set_method(name, method) if kind == "set" else registry.drop_method(name, side)
            model.change(name, side, method if kind == "set" else None)
        self.assertEqual(found, model.version)

    def run_deeds(self, chance, registry, model, depth):
        """Calls and trials, some of which end with an error."""
        for _ in range(chance.randrange(1, 8)):
            if depth and chance.random() < 0.3:
                self.run_trial(chance, registry, model, depth - 1)
            else:
                self.deed(chance, registry, model)
            self.same(registry, model)

    def run_trial(self, chance, registry, model, depth):
        model.begin()
        fails = chance.random() < 0.4
        if chance.random() < 0.5:
            try:
                with registry.trial() as bound:
                    self.assertIs(bound, registry)
                    self.same(registry, model)
                    self.run_deeds(chance, registry, model, depth)
                    if fails:
                        raise Failure()
            except Failure:
                self.assertTrue(fails)
            else:
                self.assertFalse(fails)
        else:
            def attempted(bound):
                self.assertIs(bound, registry)
                self.run_deeds(chance, registry, model, depth)
                if fails:
                    raise Failure()
                return "told"

            if fails:
                self.assertRaises(Failure, registry.attempt, attempted)
            else:
                self.assertEqual(registry.attempt(attempted), "told")
        model.end()


class Histories(Checks):
    def test_calls_and_trials_against_the_words(self):
        chance = random.Random(151)
        for _ in range(250):
            entries = random_entries(chance, "abc"[: chance.randrange(4)])
            registry, model = Registry(Book(entries)), Model(entries)
            self.same(registry, model)
            for _ in range(4):
                self.run_deeds(chance, registry, model, 3)

    def test_some_by_hand(self):
        registry = Registry()
        self.assertEqual((registry.book, registry.version, len(registry)), (Book(), 0, 0))
        self.assertEqual(repr(registry), "Registry(0 classes, version 0)")
        self.assertEqual(registry.tell("n"), 1)
        self.assertEqual(registry.tell("m", "n", methods=M[2]), 2)
        self.assertEqual(registry.tell(name="s", base=None, methods=()), 3)
        self.assertEqual(registry.set_method("n", N[2][0]), 4)
        self.assertEqual(registry.book, small_book())
        self.assertEqual(repr(registry), "Registry(3 classes, version 4)")
        self.assertEqual(len(registry), 4)
        self.assertEqual(registry.drop_method("m", "reflected"), 5)
        self.assertEqual(registry.book, Book([N, ("m", "n", ()), S]))
        self.assertEqual((registry.undo(), len(registry)), (6, 4))
        self.assertEqual(registry.book, small_book())
        self.assertEqual((registry.undo(), registry.undo(), registry.undo(), registry.undo()), (7, 8, 9, 10))
        self.assertEqual((registry.book, len(registry)), (Book(), 0))
        self.assertRaises(NothingToUndo, registry.undo)
        self.assertEqual(registry.version, 10)

    def test_a_registry_of_a_book(self):
        registry = Registry(small_book())
        self.assertEqual((registry.book, registry.version, len(registry)), (small_book(), 0, 0))
        self.assertRaises(NothingToUndo, registry.undo)
        self.assertEqual(Registry(book=small_book()).book, small_book())
        self.assertEqual(Registry(None).book, Book())

    def test_methods_stand_in_the_order_of_the_sides(self):
        registry = Registry(Book([("n", None, ())]))
        for side in ("reflected", "inplace", "forward"):
            registry.set_method(name="n", method=(side, (), "decline"))
        self.assertEqual([method[0] for method in registry.book.entries()[0][2]], list(SIDES))
        registry.set_method("n", ("reflected", (("n", "self"),), "super"))
        methods = (DECLINES, ("reflected", (("n", "self"),), "super"), ("inplace", (), "decline"))
        self.assertEqual(registry.book.entries(), [("n", None, methods)])
        registry.drop_method(name="n", side="forward")
        self.assertEqual(registry.book.entries(), [("n", None, methods[1:])])

    def test_a_call_that_leaves_the_book_equal(self):
        registry = Registry(small_book())
        self.assertEqual(registry.set_method("n", N[2][0]), 0)
        self.assertEqual(registry.drop_method("n", "reflected"), 0)
        # m has a forward method, but not one of its own
        self.assertEqual(registry.drop_method("m", "forward"), 0)
        self.assertEqual(len(registry), 0)
        self.assertRaises(NothingToUndo, registry.undo)
        registry.set_method("s", DECLINES)
        registry.set_method("s", DECLINES)
        self.assertEqual((registry.version, len(registry)), (1, 1))
        self.assertEqual(registry.undo(), 2)
        self.assertRaises(NothingToUndo, registry.undo)

    def test_undo_after_undo_reverts_earlier_calls(self):
        registry = Registry()
        registry.tell("a")
        registry.tell("b")
        registry.undo()
        registry.tell("c")
        self.assertEqual(registry.book.classes(), ["a", "c"])
        registry.undo()
        registry.undo()
        self.assertEqual(registry.book.classes(), [])
        self.assertEqual((registry.version, len(registry)), (6, 0))

    def test_a_book_that_comes_again_is_a_new_version(self):
        registry = Registry(small_book())
        registry.set_method("s", DECLINES)
        registry.drop_method("s", "forward")
        self.assertEqual(registry.book, small_book())
        self.assertEqual((registry.version, len(registry)), (2, 2))

    def test_long_histories(self):
        registry = Registry(Book([("n", None, ())]))
        for k in range(1500):
            registry.set_method("n", ("forward", (("n", "self"),) * (k % 7), "decline"))
        self.assertEqual(len(registry), 1500)
        for _ in range(1500):
            registry.undo()
        self.assertEqual((registry.version, len(registry)), (3000, 0))


class Trials(Checks):
    def test_a_trial_ends_as_it_began(self):
        registry = Registry(small_book())
        registry.tell("a")
        with registry.trial() as bound:
            self.assertIs(bound, registry)
            self.assertEqual(len(registry), 1)
            registry.tell("b")
            registry.drop_method("n", "forward")
            self.assertEqual((len(registry), registry.version), (3, 3))
        self.assertEqual(registry.book, small_book().with_entries(("a", None, ())))
        self.assertEqual((len(registry), registry.version), (1, 4))
        registry.undo()
        self.assertEqual(registry.book, small_book())

    def test_the_end_of_a_trial_may_change_nothing(self):
        registry = Registry(small_book())
        with registry.trial():
            pass
        self.assertEqual(registry.version, 0)
        with registry.trial():
            registry.tell("b")
            registry.undo()
        self.assertEqual(registry.version, 2)
        with registry.trial():
            registry.set_method("s", DECLINES)
            registry.drop_method("s", "forward")
        # the book is equal, but the history is not as at the beginning
        self.assertEqual((registry.version, len(registry)), (4, 0))

    def test_undo_reverts_only_what_the_trial_did(self):
        registry = Registry()
        registry.tell("a")
        with registry.trial():
            self.assertRaises(NothingToUndo, registry.undo)
            registry.tell("b")
            self.assertEqual(registry.undo(), 3)
            self.assertRaises(NothingToUndo, registry.undo)
            self.assertEqual((registry.book.classes(), len(registry)), (["a"], 1))
        self.assertEqual(registry.undo(), 4)

    def test_trials_within_one_another(self):
        registry = Registry()
        registry.tell("a")
        with registry.trial():
            registry.tell("b")
            with registry.trial():
                self.assertRaises(NothingToUndo, registry.undo)
                registry.tell("c")
                with registry.trial():
                    registry.tell("d")
                self.assertEqual(registry.book.classes(), ["a", "b", "c"])
                registry.undo()
                self.assertRaises(NothingToUndo, registry.undo)
                registry.tell("e")
            self.assertEqual((registry.book.classes(), len(registry)), (["a", "b"], 2))
            registry.undo()
            self.assertRaises(NothingToUndo, registry.undo)
            with registry.trial():
                registry.tell("f")
        self.assertEqual((registry.book.classes(), len(registry)), (["a"], 1))
        # a, b, c, d, its end, undo, e, its end, undo, f, its end, and nothing at the last one
        self.assertEqual(registry.version, 11)

    def test_one_context_manager_again_and_within_itself(self):
        registry = Registry()
        trial = registry.trial()
        registry.tell("a")
        for _ in range(2):
            with trial:
                registry.tell("b")
                with trial:
                    registry.tell("c")
                self.assertEqual(registry.book.classes(), ["a", "b"])
            self.assertEqual((registry.book.classes(), len(registry)), (["a"], 1))
        self.assertEqual(registry.version, 9)

    def test_an_error_leaves_the_block(self):
        for error in (Failure(), KeyError("a"), StopIteration(), KeyboardInterrupt(), RecursionError()):
            registry = Registry(small_book())
            try:
                with registry.trial():
                    registry.tell("a")
                    raise error
            except BaseException as caught:
                self.assertIs(caught, error)
            else:
                self.fail("the error did not leave the block")
            self.assertEqual((registry.book, registry.version, len(registry)), (small_book(), 2, 0))

    def test_an_error_of_the_registry_in_a_trial(self):
        registry = Registry(small_book())
        with self.assertRaises(NoBook):
            with registry.trial():
                registry.tell("a")
                registry.tell("a")
        self.assertEqual((registry.book, registry.version, len(registry)), (small_book(), 2, 0))

    def test_return_and_break_end_a_trial(self):
        registry = Registry(small_book())

        def told():
            with registry.trial():
                registry.tell("a")
                return registry.book

        self.assertEqual(len(told()), 4)
        self.assertEqual(registry.book, small_book())
        for _ in range(3):
            with registry.trial():
                registry.tell("a")
                break
        self.assertEqual((registry.book, registry.version), (small_book(), 4))

    def test_attempt(self):
        registry = Registry(small_book())
        told = registry.attempt(lambda bound: (bound, bound.tell("a"), bound.book.classes()))
        self.assertIs(told[0], registry)
        self.assertEqual(told[1:], (1, ["n", "m", "s", "a"]))
        self.assertEqual((registry.book, registry.version, len(registry)), (small_book(), 2, 0))
        self.assertIsNone(registry.attempt(function=lambda bound: None))
        error = Failure()

        def failing(bound):
            bound.tell("a")
            raise error

        try:
            registry.attempt(failing)
        except Failure as caught:
            self.assertIs(caught, error)
        self.assertEqual((registry.book, registry.version), (small_book(), 4))


class Twins(Checks):
    def test_the_same_book_history_and_version(self):
        registry = Registry(small_book())
        registry.tell("a")
        registry.tell("b")
        registry.undo()
        twin = registry.twin()
        self.assertIsInstance(twin, Registry)
        self.assertEqual((twin.book, twin.version, len(twin)), (registry.book, 3, 1))
        twin.tell("c")
        registry.tell("d")
        self.assertEqual(twin.book.classes(), ["n", "m", "s", "a", "c"])
        self.assertEqual(registry.book.classes(), ["n", "m", "s", "a", "d"])
        self.assertEqual((twin.undo(), twin.undo()), (5, 6))
        self.assertEqual(twin.book, small_book())
        self.assertRaises(NothingToUndo, twin.undo)
        self.assertEqual((len(registry), registry.version), (2, 4))

    def test_outside_of_all_trials(self):
        registry = Registry()
        registry.tell("a")
        with registry.trial():
            registry.tell("b")
            with registry.trial():
                registry.tell("c")
                twin = registry.twin()
                self.assertEqual((twin.undo(), twin.undo(), twin.undo()), (4, 5, 6))
                self.assertRaises(NothingToUndo, twin.undo)
                twin.tell("z")
                self.assertEqual(registry.book.classes(), ["a", "b", "c"])
        self.assertEqual((twin.book.classes(), twin.version, len(twin)), (["z"], 7, 1))
        self.assertEqual((registry.book.classes(), registry.version), (["a"], 5))

    def test_a_trial_of_the_twin(self):
        registry = Registry(small_book())
        twin = registry.twin()
        with twin.trial() as bound:
            self.assertIs(bound, twin)
            twin.tell("a")
            registry.tell("b")
        self.assertEqual(twin.book, small_book())
        self.assertEqual(registry.book.classes(), ["n", "m", "s", "b"])


class Errors(Checks):
    def check(self, kind, ask, registry):
        """The error, after which nothing is different."""
        before = (registry.book, registry.version, len(registry))
        error = error_of(kind, ask)
        self.assertEqual((registry.book, registry.version, len(registry)), before)
        return error

    def registry(self):
        registry = Registry()
        registry.tell("n", methods=N[2])
        registry.tell("m", "n", methods=M[2])
        registry.tell("s")
        return registry

    def test_values_that_are_no_classes(self):
        for value in NO_NAMES + ["a", "nm", {"n": 1}, with_bottom(3000, "n", "left")]:
            registry = self.registry()
            for ask in (
                lambda: registry.set_method(value, DECLINES),
                lambda: registry.set_method(value, "no method"),
                lambda: registry.drop_method(value, "forward"),
                lambda: registry.drop_method(value, value),
            ):
                self.assertIs(self.check(NoClass, ask, registry).name, value)

    def test_values_that_are_no_names_or_bases(self):
        deep = with_bottom(3000, "n", "left")
        for value in NO_NAMES + ["n", "m", {"n": 1}, deep]:
            registry = self.registry()
            self.assertEqual(self.check(NoBook, lambda: registry.tell(value), registry).position, 3)
        for value in NO_NAMES + ["a", "nm", {"n": 1}, deep]:
            registry = self.registry()
            if value is not None:
                self.assertEqual(self.check(NoBook, lambda: registry.tell("a", value), registry).position, 3)

    def test_values_that_are_no_methods(self):
        deep = with_bottom(3000, "n", "left")
        cases = (("n", "self"),)
        wrong = NO_NAMES + [
            "n", {"n": 1}, deep, ("forward",), ("forward", ()), ("forward", (), "decline", ()), ["forward", (),
                "decline"],
            ("sideways", (), "decline"), ("forward", [], "decline"), ("forward", (), "declines"), ("forward", (), None),
            ("forward", cases * 7, "decline"), ("forward", (("z", "self"),), "decline"), ("forward", (), "self"),
            ("forward", (("n", "z"),), "decline"), ("forward", (("self", "n"),), "decline"), ("forward", deep, "super"),
            (["forward"], (), "decline"), (deep, (), "decline"), ("forward", cases + (["n", "self"],), "decline"),
            ("forward", (("n", "self", "n"),), "decline"), (None, (), "decline"), (("forward", (), "decline"),),
        ]
        for value in wrong:
            for at, name in enumerate(["n", "m", "s"]):
                registry = self.registry()
                error = self.check(NoBook, lambda: registry.set_method(name, value), registry)
                self.assertEqual(error.position, at, value)
            error = self.check(NoBook, lambda: registry.tell("a", methods=(value,)), registry)
            self.assertEqual(error.position, 3)
            if value not in ((), (DECLINES,)):
                error = self.check(NoBook, lambda: registry.tell("a", methods=value), registry)
                self.assertEqual(error.position, 3)

    def test_any_value_as_a_side_that_is_dropped(self):
        for value in NO_NAMES + ["sideways", "forwards", {}, with_bottom(3000, "n", "left"), ("forward",), N[2][0]]:
            registry = self.registry()
            self.assertEqual((registry.drop_method("n", value), len(registry)), (3, 3))

    def test_more_than_ten_classes(self):
        registry = Registry()
        for name in "abcdefghij":
            registry.tell(name)
        self.assertEqual(self.check(NoBook, lambda: registry.tell("k"), registry).position, -1)
        self.assertEqual(self.check(NoBook, lambda: registry.tell("a", "z", methods=0), registry).position, -1)

    def test_methods_may_name_their_own_class_and_no_later_one(self):
        registry = Registry()
        registry.tell("a", methods=(("forward", (("a", "a"),), "super"),))
        error = self.check(NoBook, lambda: registry.tell("b", methods=(("forward", (("c", "a"),), "super"),)), registry)
        self.assertEqual(error.position, 1)


class General(unittest.TestCase):
    def test_nothing_is_kept_or_changed(self):
        book = small_book()
        before = copy.deepcopy(book)
        registry, other = Registry(book), Registry(book)
        registry.tell("a")
        self.assertEqual(book, before)
        self.assertEqual(other.book, before)
        registry.book.entries().clear()
        registry.book.classes().clear()
        self.assertEqual(len(registry.book), 4)
        told = registry.book
        registry.undo()
        self.assertEqual(len(told), 4)

    def test_properties_are_read_only_and_keywords_are_keywords(self):
        registry = Registry(small_book())
        with self.assertRaises(AttributeError):
            registry.version = 7
        with self.assertRaises(TypeError):
            registry.tell("a", None, ())


if __name__ == "__main__":
    unittest.main()
