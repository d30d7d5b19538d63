"""Books of classes, and what their names are."""

from eitherside.errors import NoClass

# a text uses these words for something else than a class
_TAKEN = ("self", "other", "super", "raises")


def is_name(value):
    """Whether any value is a name."""
    if not isinstance(value, str) or not 1 <= len(value) <= 6:
        return False
    return value not in _TAKEN and all(["a" <= letter <= "z" for letter in value])


class Book:
    """Classes with their bases and methods. Its entries have to be those of a book."""

    def __init__(self, entries=()):
        self._bases = {}
        self._methods = {}
        for name, base, methods in entries:
            self._bases[name] = base
            self._methods[name] = methods

    def __contains__(self, value):
        return isinstance(value, str) and value in self._bases

    def classes(self):
        """The names in the order of the entries."""
        return list(self._bases)

    def bases(self, name):
        """The class, its base, the base of this one, and so on."""
        if name not in self:
            raise NoClass(name)
        chain = [name]
        while self._bases[chain[-1]] is not None:
            chain.append(self._bases[chain[-1]])
        return chain

    def belongs(self, name, other):
        """Whether the first class is the other one or descends from it."""
        chain = self.bases(name)
        if other not in self:
            raise NoClass(other)
        return other in chain

    def method(self, name, side):
        """The method of a class: (class in which it stands, cases, ending), or None."""
        for holder in self.bases(name):
            for own_side, cases, ending in self._methods[holder]:
                if own_side == side:
                    return (holder, cases, ending)
        return None
