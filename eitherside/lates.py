"""What classes that are added later can change of the answer to a pair of operands.

The classes that a book has, the told ones, answer each other as before whatever is added. So a pair is sure if all
members, late ones too, are answered where the operands' own classes are, and a few extensions show whether they are.
"""

from eitherside.answers import answer
from eitherside.books import Book
from eitherside.errors import NoClass

_LETTERS = "abcdefghijklmnopqrstuvwxyz"


class LongBook(Book):
    """A book with its extension."""

    LIMIT = 20


def unsure(book, left, right):
    """None if the pair is sure, otherwise (extension, pair, pair): pairs of members not answered at the same place."""
    _check_operands(book, left, right)
    for extension in _telling_extensions(book, left, right):
        found = _parted(book, extension, left, right)
        if found is not None:
            return (extension, *found)
    return None


def unquiet(book, left, right):
    """None if the pair is quiet, otherwise a tuple as of unsure, with an extension without methods."""
    _check_operands(book, left, right)
    # A late class has the methods of the nearest told class above it and belongs to the same told classes. All that
    # sets it apart is to be another class than that one. So one late class below each told one is enough: two of
    # them below the same one, and in whatever order, are answered as one of them and the told one are.
    names = _late_names(book)
    extension = [(late, told, ()) for late, told in zip(names, book.classes())]
    found = _parted(book, extension, left, right)
    if found is None:
        return None
    needed = [entry for entry in extension if entry[0] in found[1]]
    return (needed, *found)


def _check_operands(book, left, right):
    """Raises NoClass for the first operand that is not over a class of the book."""
    for name, _ in (left, right):
        if name not in book:
            raise NoClass(name)


def _late_names(book):
    """Names that the book does not have, more than an extension may need."""
    return [letter for letter in _LETTERS if letter not in book]


def _telling_extensions(book, left, right):
    """The extensions of which one parts the members if any extension does."""
    late = _late_names(book)[0]
    extensions = [[]]
    if left[1]:
        # no told class is prior to a late one, so this one answers itself
        extensions.append([(late, left[0], (("forward", ((right[0], "self"),), "decline"),))])
    if right[1]:
        # A late class that belongs to the left class is prior to it and answers itself. Any other one is asked only if
        # the left class declines the nearest told class above it. If it does so for the right class, a late class
        # below this one answers itself, and if it does not, two told members are not answered at the same place.
        reflected = ("reflected", ((left[0], "self"),), "decline")
        bases = [name for name in (right[0], left[0]) if book.belongs(name, right[0])]
        extensions.extend([[(late, base, (reflected,))] for base in bases])
    return extensions


def _parted(book, extension, left, right):
    """The pair of the operands' classes and one of members that is not answered at its place; None if all are."""
    longer = LongBook(book.entries() + extension)
    first = (left[0], right[0])
    place = _place(longer, left[0], right[0])
    for one in _members(longer, left):
        for other in _members(longer, right):
            if _place(longer, one, other) != place:
                return (first, (one, other))
    return None


def _members(book, operand):
    """The members of the operand in an extended book."""
    name, is_open = operand
    return [one for one in book.classes() if book.belongs(one, name)] if is_open else [name]


def _place(book, left, right):
    """The place at which the sum is answered, None if it raises."""
    attempts, _ = answer(book, left, right)
    return attempts[-1][2] if attempts else None
