"""The spans over any sums, each with a tree that has as few leaves as possible.

Outcomes are numbers here. A set of outcomes, or of nodes, is an integer: its bit k tells whether k is in it.
"""

from heapq import heappop, heappush

from eitherside.patterns import steps
from eitherside.tables import full_sums


def numbered_outcomes(table):
    """All outcomes that may come over the table, by their numbers: None is 0, the classes follow in order."""
    return [None] + table.classes()


def numbered_sums(table):
    """The sums by the numbers of the outcomes: sums[x][y] is that of x and y."""
    sums = full_sums(table)
    found = numbered_outcomes(table)
    return [[found.index(sums[left][right]) for right in found] for left in found]


def members(numbers):
    """The ascending list of the numbers in a set."""
    found = []
    while numbers:
        lowest = numbers & -numbers
        found.append(lowest.bit_length() - 1)
        numbers -= lowest
    return found


class Growth:
    """The spans of a pattern over any sums, level by level.

    A level has the spans that need the same number of leaves. Those that need few come first, because a tree that
    is put together from any others may have more leaves than can be walked through. A level is a dict from the
    first nodes to dicts from the second nodes to the set of the outcomes.
    """

    def __init__(self, pattern, outcomes, sums):
        """The dict has the numbers of the outcomes of the classes, and sums[x][y] is that of x and y."""
        self._sums = sums
        self._images = {}
        self._names = {}
        self._known = {}
        self._levels = {}
        # the numbers of leaves of the next levels: some come several times, and some have no span
        self._waiting = []
        self._tried = 1
        # how many leaves each span (node, node, outcome) needs
        self.fewest = {}
        found = {}
        for start, end, name in steps(pattern):
            self._names[end] = name
            _include(found, start, end, 1 << outcomes[name])
        self._settle(1, found)

    def _settle(self, size, found):
        """Adds a level and returns the list of its spans."""
        self._levels[size] = found
        for other in self._levels:
            heappush(self._waiting, size + other)
        new = [(start, end, one) for start in found for end in found[start] for one in members(found[start][end])]
        for start, end, one in new:
            self._known[start, end] = self._known.get((start, end), 0) | (1 << one)
            self.fewest[start, end, one] = size
        return new

    def grow(self):
        """Adds the next level and returns the list of its spans, an empty one if there is no further level."""
        while self._waiting:
            size = heappop(self._waiting)
            found = self._found(size) if size > self._tried else {}
            self._tried = size
            if found:
                return self._settle(size, found)
        return []

    def _found(self, size):
        """The spans that trees with this number of leaves have, and no smaller ones."""
        found = {}
        for left, level in self._levels.items():
            other = self._levels.get(size - left)
            if other is not None:
                self._join(level, other, found)
        return found

    def _join(self, lefts, rights, found):
        """Includes the new spans that are put together from these ones."""
        for start, row in lefts.items():
            for middle, here in row.items():
                for end, there in rights.get(middle, {}).items():
                    fresh = self._sums_of(here, there) & ~self._known.get((start, end), 0)
                    if fresh:
                        _include(found, start, end, fresh)

    def _sums_of(self, lefts, rights):
        """The outcomes of each of the left ones with each of the right ones."""
        found = 0
        for left in members(lefts):
            found |= self._image(left, rights)
        return found

    def _image(self, left, rights):
        """The outcomes of the left one with each of the right ones."""
        key = (left, rights)
        if key not in self._images:
            found = 0
            for right in members(rights):
                found |= 1 << self._sums[left][right]
            self._images[key] = found
        return self._images[key]

    def tree_of(self, span):
        """The tree of a span (node, node, outcome)."""
        parts = {}
        waiting = [span]
        while waiting:
            part = waiting.pop()
            if part not in parts:
                parts[part] = self._parts(part)
                waiting.extend(parts[part])
        trees = {}
        for part in sorted(parts, key=lambda one: self.fewest[one]):
            if parts[part]:
                left, right = parts[part]
                trees[part] = (trees[left], trees[right])
            else:
                trees[part] = self._names[part[1]]
        return trees[span]

    def _parts(self, span):
        """The two spans from which this one is put together; none for a step."""
        start, end, one = span
        size = self.fewest[span]
        for left in self._levels:
            others = self._levels.get(size - left, {})
            for middle, here in self._levels[left].get(start, {}).items():
                there = others.get(middle, {}).get(end, 0)
                if (self._sums_of(here, there) >> one) & 1:
                    low, high = self._summands(here, there, one)
                    return [(start, middle, low), (middle, end, high)]
        return []

    def _summands(self, lefts, rights, one):
        """A left one and a right one with this outcome."""
        pairs = [(left, right) for left in members(lefts) for right in members(rights)]
        return [(left, right) for left, right in pairs if self._sums[left][right] == one][0]


def _include(level, start, end, numbers):
    """Adds outcomes to a level."""
    row = level.setdefault(start, {})
    row[end] = row.get(end, 0) | numbers
