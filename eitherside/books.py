"""Books of classes, and what their names are."""

from eitherside.answers import outcome
from eitherside.errors import NoBook, NoClass, NoText
from eitherside.tables import Table

# a text uses these words for something else than a class
_TAKEN = ("self", "other", "super", "raises")
SIDES = ("forward", "reflected", "inplace")
_ENDINGS = ("decline", "super")
_RESULTS = ("self", "other")
_MOST_CASES = 6


def is_name(value):
    """Whether any value is a name."""
    if not isinstance(value, str) or not 1 <= len(value) <= 6:
        return False
    return value not in _TAKEN and all(["a" <= letter <= "z" for letter in value])


class Book:
    """Classes with their bases and methods."""

    LIMIT = 10

    def __init__(self, entries=()):
        """The entries are tuples (name, base, methods)."""
        _check_entries(entries, self.LIMIT)
        self._entries = list(entries)
        self._bases = {name: base for name, base, _ in entries}
        self._methods = {name: methods for name, _, methods in entries}

    @classmethod
    def from_text(cls, text):
        """The book with this text."""
        if not isinstance(text, str):
            raise NoText(-1)
        lines = text.split("\n") if text else []
        parts = [_read_line(line) for line in lines]
        if None in parts:
            raise NoText(parts.index(None))
        try:
            return cls(_entries_of(parts))
        except NoBook:
            raise NoText(len(lines)) from None

    def __contains__(self, value):
        return isinstance(value, str) and value in self._bases

    def __eq__(self, other):
        return isinstance(other, Book) and self._entries == other._entries

    def __len__(self):
        return len(self._entries)

    def __str__(self):
        return "\n".join([_show_entry(entry) for entry in self._entries])

    def __repr__(self):
        return f"Book({len(self._entries)} classes)"

    def entries(self):
        """The entries in their order."""
        return list(self._entries)

    def classes(self):
        """The names in the order of the entries."""
        return list(self._bases)

    def bases(self, name):
        """The class, its base, the base of this one, and so on."""
        if name not in self:
            raise NoClass(name)
        chain = [name]
        while self._bases[chain[-1]] is not None:
            chain.append(self._bases[chain[-1]])
        return chain

    def belongs(self, name, other):
        """Whether the first class is the other one or descends from it."""
        chain = self.bases(name)
        if other not in self:
            raise NoClass(other)
        return other in chain

    def method(self, name, side):
        """The method of a class: (class in which it stands, cases, ending), or None."""
        for holder in self.bases(name):
            for own_side, cases, ending in self._methods[holder]:
                if own_side == side:
                    return (holder, cases, ending)
        return None

    def table(self):
        """The table of the sums that are not in place."""
        names = sorted(self.classes())
        sums = {}
        for left in names:
            for right in names:
                sums[left, right] = outcome(self, left, right)
        return Table(tuple(names), sums)

    def with_entries(self, *entries):
        """The book with these entries behind its own."""
        return Book(self._entries + list(entries))


def _check_entries(entries, most):
    """Raises NoBook if they are not the entries of a book with at most so many."""
    if not isinstance(entries, (list, tuple)) or len(entries) > most:
        raise NoBook(-1)
    names = []
    for position, entry in enumerate(entries):
        if not _is_entry(entry, names):
            raise NoBook(position)
        names.append(entry[0])
    # methods may name classes of later entries, so they wait until all names are known
    for position, entry in enumerate(entries):
        if not _are_methods(entry[2], names):
            raise NoBook(position)


def _is_entry(value, names):
    """Whether any value is an entry behind those with these names, whatever its methods are."""
    if not isinstance(value, tuple) or len(value) != 3:
        return False
    name, base, _ = value
    return is_name(name) and name not in names and (base is None or base in names)


def _are_methods(value, names):
    """Whether any value is the methods of an entry in a book with these names."""
    if not isinstance(value, tuple) or not all([_is_method(method, names) for method in value]):
        return False
    sides = [side for side, _, _ in value]
    return sides == [side for side in SIDES if side in sides]


def _is_method(value, names):
    """Whether any value is a method."""
    if not isinstance(value, tuple) or len(value) != 3:
        return False
    side, cases, ending = value
    if side not in SIDES or ending not in _ENDINGS:
        return False
    if not isinstance(cases, tuple) or len(cases) > _MOST_CASES:
        return False
    return all([_is_case(case, names) for case in cases])


def _is_case(value, names):
    """Whether any value is a case."""
    if not isinstance(value, tuple) or len(value) != 2:
        return False
    argument, result = value
    return argument in names and (result in names or result in _RESULTS)


def _show_entry(entry):
    """The rows of the entry in a text."""
    name, base, methods = entry
    head = f"class {name}" if base is None else f"class {name} {base}"
    return "\n".join([head] + [_show_method(method) for method in methods])


def _show_method(method):
    """The row of the method in a text."""
    side, cases, ending = method
    return " ".join([side, ending] + [f"{argument}={result}" for argument, result in cases])


def _read_line(line):
    """What a row says: (name, base) or (side, cases, ending), None if it is no row."""
    words = line.split(" ")
    return read_head(words[1:]) if words[0] == "class" else read_method(words)


def read_method(words):
    """The method, None if these words are no method with any number of cases over any names."""
    if len(words) < 2 or words[0] not in SIDES or words[1] not in _ENDINGS:
        return None
    cases = tuple([_read_case(word) for word in words[2:]])
    return None if None in cases else (words[0], cases, words[1])


def read_head(names):
    """The name and the base, None if these words are no class with a base or without one."""
    if not 1 <= len(names) <= 2 or not all([is_name(name) for name in names]):
        return None
    return (names[0], names[1] if len(names) == 2 else None)


def _read_case(word):
    """The case, None if the word is no case over any names."""
    argument, _, result = word.partition("=")
    if not is_name(argument) or not (is_name(result) or result in _RESULTS):
        return None
    return (argument, result)


def _entries_of(parts):
    """The entries that the rows make; None, which is no list of entries, if a method stands before all classes."""
    entries = []
    for part in parts:
        if len(part) == 2:
            entries.append((part[0], part[1], ()))
        elif entries:
            name, base, methods = entries[-1]
            entries[-1] = (name, base, methods + (part,))
        else:
            return None
    return entries
