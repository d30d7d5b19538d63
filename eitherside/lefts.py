"""The left sums of all rows of a pattern at once.

A row is read class by class. Its state is all that later classes have to know of what was read; it is "" before
the first class. The first row to a state is found by going from the states of shorter rows to those of longer ones.
"""

from eitherside.answers import answer
from eitherside.patterns import check_pattern, ends, ways_of
from eitherside.tables import in_order


def left_outcomes(book, pattern, *, inplace=False):
    """The tuples (outcome, first row of the pattern with this left sum)."""
    check_pattern(pattern, book.classes())
    answers = _answers(book, inplace)
    firsts = _firsts_at_ends(pattern, "", lambda state, name: _left_sum(answers, state, name))
    return [(state, firsts[state]) for state in in_order(firsts)]


def answering(book, pattern, place, *, inplace=False):
    """The first row of the pattern in whose left bracketing any value, a place, answers, or None."""
    check_pattern(pattern, book.classes())
    # True and False would be equal to indexes, but they are none
    if not isinstance(place, tuple) or len(place) != 3 or isinstance(place[2], bool):
        return None
    answers = _answers(book, inplace)
    firsts = _firsts_at_ends(pattern, "", lambda state, name: _watched(answers, place, state, name))
    return firsts.get(True)


def idle(book, pattern, *, inplace=False):
    """The places of all cases that answer in no row of the pattern."""
    check_pattern(pattern, book.classes())
    answers = _answers(book, inplace)
    ways = ways_of(pattern)
    answered = {}
    for node, state in _firsts(pattern, "", lambda state, name: _left_sum(answers, state, name)):
        for _, name in ways[node]:
            if state is not None:
                place, _ = answers[state, name]
                answered[place] = True
    return sorted([place for place in _places(book) if place not in answered])


def left_parting(book, other, pattern, *, inplace=False):
    """The first row of the pattern whose left sums over both books are different, or None."""
    check_pattern(pattern, book.classes())
    check_pattern(pattern, other.classes())
    answers = _answers(book, inplace)
    others = _answers(other, inplace)
    firsts = _firsts_at_ends(pattern, ("", ""), lambda states, name: _both_sums(answers, others, states, name))
    for states, row in firsts.items():
        if states[0] != states[1]:
            return row
    return None


def _answers(book, inplace):
    """A dict from each two classes to the tuple (place or None, outcome) of their sum."""
    found = {}
    for left in book.classes():
        for right in book.classes():
            attempts, result = answer(book, left, right, inplace=inplace)
            found[left, right] = (attempts[-1][2] if attempts else None, result)
    return found


def _places(book):
    """The places of all cases of the book."""
    return [
        (name, side, index)
        for name, _, methods in book.entries()
        for side, cases, _ in methods
        for index in range(len(cases))
    ]


def _left_sum(answers, state, name):
    """The left sum of a row with one class more; the state is its left sum before."""
    if state == "":
        return name
    return None if state is None else answers[state, name][1]


def _watched(answers, place, state, name):
    """The left sum, too, but True from the sum on that is answered at the place."""
    if state is True:
        return True
    if state != "" and state is not None and answers[state, name][0] == place:
        return True
    return _left_sum(answers, state, name)


def _both_sums(answers, others, states, name):
    """The left sums over two books."""
    return (_left_sum(answers, states[0], name), _left_sum(others, states[1], name))


def _firsts(pattern, start, move):
    """A dict from each tuple (node, state) that comes to the first row that leads to it, in the order of these rows."""
    ways = ways_of(pattern)
    firsts = {}
    layer = [((), 0, start)]
    while layer:
        found = {}
        for row, node, state in layer:
            for target, name in ways[node]:
                key = (target, move(state, name))
                # the layer is in order, so the row that comes first is the first one
                if key not in firsts and key not in found:
                    found[key] = row + (name,)
        layer = []
        for key in sorted(found, key=lambda one: found[one]):
            firsts[key] = found[key]
            layer.append((found[key], key[0], key[1]))
    return firsts


def _firsts_at_ends(pattern, start, move):
    """A dict from each state that rows of the pattern have to the first one with it, in the order of these rows."""
    stops = ends(pattern)
    found = {}
    for (node, state), row in _firsts(pattern, start, move).items():
        if node in stops and state not in found:
            found[state] = row
    return found
