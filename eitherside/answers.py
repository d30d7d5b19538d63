"""Which method answers the sum of two classes."""

from eitherside.errors import NoClass


def answer(book, left, right, *, inplace=False):
    """The tuple (attempts, outcome); an attempt is (class that is asked, side, place or None)."""
    attempts = []
    for asked, side, other in _questions(book, left, right, inplace):
        if book.method(asked, side) is None:
            continue
        place, result = _ask(book, asked, side, other)
        attempts.append((asked, side, place))
        if place is not None:
            return (attempts, result)
    return (attempts, None)


def outcome(book, left, right, *, inplace=False):
    """The outcome of the sum alone, None if it raises."""
    return answer(book, left, right, inplace=inplace)[1]


def is_prior(book, left, right):
    """Whether the right class is asked before the left one."""
    for name in (left, right):
        if name not in book:
            raise NoClass(name)
    if left == right or not book.belongs(right, left):
        return False
    own = book.method(right, "reflected")
    if own is None:
        return False
    older = book.method(left, "reflected")
    return older is None or older[0] != own[0]


def _questions(book, left, right, inplace):
    """What is asked until something answers: tuples (class, side, other class)."""
    forward = (left, "forward", right)
    reflected = (right, "reflected", left)
    if is_prior(book, left, right):
        questions = [reflected, forward]
    elif left == right:
        questions = [forward]
    else:
        questions = [forward, reflected]
    if inplace:
        return [(left, "inplace", right)] + questions
    return questions


def _ask(book, asked, side, other):
    """The place of the answer and its result, both None if the class declines."""
    method = book.method(asked, side)
    while method is not None:
        holder, cases, ending = method
        for index, (argument, result) in enumerate(cases):
            if book.belongs(other, argument):
                return ((holder, side, index), _meant(result, asked, other))
        method = _method_above(book, holder, side) if ending == "super" else None
    return (None, None)


def _method_above(book, holder, side):
    """The method that a class above this one has for the side, or None."""
    chain = book.bases(holder)
    return book.method(chain[1], side) if len(chain) > 1 else None


def _meant(result, asked, other):
    """The class that the result of a case means."""
    if result == "self":
        return asked
    if result == "other":
        return other
    return result
