"""Whether patterns are sound, and the fewest changes of a table after which they are.

A flaw of a pattern is what shows that it is not sound: a tuple of one tree that raises, or of two trees as unfree
returns them. It stays a flaw until a sum that occurs in it is changed. So each repair has a change of such a sum.
"""

from eitherside.free import unfree
from eitherside.patterns import check_pattern
from eitherside.rows import sums_made
from eitherside.spans import example


class Flaws:
    """Finds flaws of one pattern over many tables; it remembers them, because often the same one is a flaw again."""

    def __init__(self, pattern):
        self._pattern = pattern
        self._known = []

    def flaw_of(self, table):
        """A flaw of the pattern over the table, or None."""
        for trees in self._known:
            if _is_still_a_flaw(table, trees):
                return trees
        trees = _first_flaw(table, self._pattern)
        if trees is not None:
            self._known.append(trees)
        return trees


def is_sound(table, pattern):
    """Whether the pattern is free and no bracketing of its rows raises."""
    return _first_flaw(table, pattern) is None


def repair(table, pattern, *, most=2):
    """The changes of a repair with as few as possible, None if each one has more than so many."""
    check_pattern(pattern, table.classes())
    flaws = Flaws(pattern)
    for many in range(most + 1):
        changes = _completed(flaws, table, [], many)
        if changes is not None:
            return sorted(changes)
    return None


def _completed(flaws, table, changes, many):
    """The changes that led to the table and at most so many more, after which the pattern is sound; or None."""
    trees = flaws.flaw_of(table)
    if trees is None:
        return changes
    if many == 0:
        return None
    # what two changes of one pair do, the later one does alone
    pairs = [change[:2] for change in changes]
    for change in changes_in(table, trees):
        if change[:2] not in pairs:
            found = _completed(flaws, table.changed(change), [*changes, change], many - 1)
            if found is not None:
                return found
    return None


def changes_in(table, trees):
    """The changes, in ascending order, that really change the outcome of a pair whose sum occurs in the trees."""
    pairs = {}
    for tree in trees:
        _, made = sums_made(table, tree)
        for pair in made:
            pairs[pair] = made[pair]
    return [
        (left, right, name)
        for left, right in sorted(pairs)
        for name in table.classes()
        if name != pairs[left, right]
    ]


def _first_flaw(table, pattern):
    """A flaw of the pattern over the table, or None. Raises NoPattern."""
    tree = example(table, pattern, None)
    return unfree(table, pattern) if tree is None else (tree,)


def _is_still_a_flaw(table, trees):
    """Whether what is a flaw over some table is one over this table."""
    found = [sums_made(table, tree)[0] for tree in trees]
    return found[0] is None if len(found) == 1 else found[0] != found[1]
