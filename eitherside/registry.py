"""A book that changes over time, with its history."""

from eitherside.books import SIDES, Book
from eitherside.errors import NoClass, NothingToUndo


class Beginning:
    """How a registry was when a trial of it began."""

    def __init__(self, told, history, outer):
        """The outer one is the beginning of the trial around, None for that of the registry itself."""
        self.told = told
        self.history = history
        self.outer = outer
        # whether the book is another one by now, as 1 or 0: so many versions the end of the trial is
        self.differs = 0


class Registry:
    """A book, and the books before it to which undo leads back. A with block over it is a trial."""

    def __init__(self, book=None):
        self._book = Book() if book is None else Book(book.entries())
        # the list is replaced and never modified, so that a beginning may keep it
        self._history = []
        self._version = 0
        self._beginning = Beginning(self._book, self._history, None)

    @property
    def book(self):
        """The present book."""
        return self._book

    @property
    def version(self):
        """How often the book became a different one."""
        return self._version

    def __len__(self):
        return len(self._history)

    def __enter__(self):
        self._beginning = Beginning(self._book, self._history, self._beginning)
        return self

    def __exit__(self, kind, value, trace):
        self._version = self._version + self._beginning.differs
        self._book = self._beginning.told
        self._history = self._beginning.history
        self._beginning = self._beginning.outer

    def __repr__(self):
        return f"Registry({len(self._book)} classes, version {self._version})"

    def tell(self, name, base=None, *, methods=()):
        """Adds an entry and returns the version."""
        return self._tell_book(self._book.with_entries((name, base, methods)))

    def set_method(self, name, method):
        """Replaces or adds the method of its side and returns the version."""
        return self._tell_book(_with_methods(self._book, name, lambda methods: _with_method(methods, method)))

    def drop_method(self, name, side):
        """Removes the method, if the class has one of its own for the side, and returns the version."""
        return self._tell_book(_with_methods(self._book, name, lambda methods: _without_side(methods, side)))

    def undo(self):
        """Reverts the last call that is not reverted and returns the version."""
        if len(self._history) == len(self._beginning.history):
            raise NothingToUndo()
        return self._turn_to(self._history[-1], self._history[:-1])

    def trial(self):
        """A context manager that binds the registry: the registry itself, which knows how each of its trials began."""
        return self

    def attempt(self, function):
        """What the function returns for the registry in a trial."""
        with self.trial() as registry:
            return function(registry)

    def twin(self):
        """A registry with the same book, history and version, outside of all trials."""
        other = Registry(self._book)
        other._history = list(self._history)
        other._version = self._version
        return other

    def _tell_book(self, book):
        """Replaces the book by a different one and returns the version; an equal one changes nothing."""
        if book == self._book:
            return self._version
        return self._turn_to(book, [*self._history, self._book])

    def _turn_to(self, book, history):
        """Takes the book, which is a different one, and the history, and returns the version."""
        self._book = book
        self._history = history
        self._version += 1
        self._beginning.differs = 0 if book == self._beginning.told else 1
        return self._version


def _with_methods(book, name, change):
    """The book with what the function makes of the methods of the class."""
    if name not in book:
        raise NoClass(name)
    return Book([
        (one, base, change(methods)) if one == name else (one, base, methods)
        for one, base, methods in book.entries()
    ])


def _with_method(methods, method):
    """The methods with any value in place of the method of its side; no methods of an entry if it is no method."""
    if not isinstance(method, tuple) or not method or method[0] not in SIDES:
        return (method,)
    found = [*_without_side(methods, method[0]), method]
    return tuple([one for side in SIDES for one in found if one[0] == side])


def _without_side(methods, side):
    """The methods without that of the side, any value."""
    return tuple([method for method in methods if method[0] != side])
