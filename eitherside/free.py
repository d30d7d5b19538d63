"""Whether the outcomes of the rows of a pattern depend on the brackets.

If trees differ by one turn, there is a smallest part that holds the turn, and what stands around it adds a tree to
its left or to its right, again and again. So the twists come in layers: those of the turns, and what a span more
makes of those before. A relation is a list with the set of the nodes to which something leads from each node.
"""

from eitherside.growth import members, numbered_outcomes, numbered_sums
from eitherside.patterns import ends
from eitherside.spans import full_growth


class Twisting:
    """The twists that the spans with at most so many leaves make, with their trees."""

    def __init__(self, growth, sums, most):
        self._growth = growth
        self._sums = sums
        self._size = 1 + max([end for _, end, _ in growth.fewest])
        # for each outcome the relation of the spans that have it
        self._links = [[0] * self._size for _ in sums]
        for (start, end, one), fewest in growth.fewest.items():
            if fewest <= most:
                self._links[one][start] |= 1 << end
        self._known = {}
        # dicts from two outcomes to the relation of their twists
        self._layers = []
        layer = self._turns()
        while layer:
            self._layers.append(layer)
            layer = self._around(layer)

    def _turns(self):
        """The layer of the twists that are turns."""
        layer = {}
        for a, left in enumerate(self._links):
            for b, inner in enumerate(self._links):
                relation = _through(left, inner)
                for c, right in enumerate(self._links):
                    one, another = self._turned(a, b, c)
                    if one != another:
                        found = _through(relation, right)
                        self._include(layer, (one, another), found)
                        self._include(layer, (another, one), found)
        return layer

    def _turned(self, a, b, c):
        """The outcomes of ((a, b), c) and (a, (b, c))."""
        sums = self._sums
        return (sums[sums[a][b]][c], sums[a][sums[b][c]])

    def _around(self, before):
        """The layer behind this one."""
        layer = {}
        for (one, another), relation in before.items():
            for more, link in enumerate(self._links):
                behind = self._both_right(one, another, more)
                if behind[0] != behind[1]:
                    self._include(layer, behind, _through(relation, link))
                ahead = self._both_left(one, another, more)
                if ahead[0] != ahead[1]:
                    self._include(layer, ahead, _through(link, relation))
        return layer

    def _both_right(self, one, another, more):
        """The outcomes of both with one more to their right."""
        return (self._sums[one][more], self._sums[another][more])

    def _both_left(self, one, another, more):
        """The outcomes of both with one more to their left."""
        return (self._sums[more][one], self._sums[more][another])

    def _include(self, layer, pair, relation):
        """Adds to the layer what is new."""
        known = self._known.get(pair, [0] * self._size)
        fresh = [nodes & ~old for nodes, old in zip(relation, known)]
        if any(fresh):
            self._known[pair] = _joined(known, fresh)
            layer[pair] = _joined(layer.get(pair, [0] * self._size), fresh)

    def all_of_them(self):
        """The tuples (node, node, outcome, outcome)."""
        return [
            (start, end, one, another)
            for (one, another), relation in self._known.items()
            for start, nodes in enumerate(relation)
            for end in members(nodes)
        ]

    def whole(self, stops):
        """A twist from 0 to one of the nodes in the first layer that has one: (layer, twist), or None."""
        for depth, layer in enumerate(self._layers):
            for (one, another), relation in layer.items():
                for end in stops:
                    if (relation[0] >> end) & 1:
                        return (depth, (0, end, one, another))
        return None

    def trees(self, depth, twist):
        """The two trees of a twist in this layer."""
        around = []
        while depth > 0:
            depth -= 1
            twist, span, is_right = self._inner(depth, twist)
            around.append((self._growth.tree_of(span), is_right))
        one, another = self._trees_of_turn(twist)
        for tree, is_right in around[::-1]:
            if is_right:
                one, another = (one, tree), (another, tree)
            else:
                one, another = (tree, one), (tree, another)
        return (one, another)

    def _inner(self, depth, twist):
        """A twist of this layer that a span makes the given one, the span, and whether it stands to the right."""
        start, end, first, second = twist
        for (one, another), relation in self._layers[depth].items():
            for more, link in enumerate(self._links):
                if self._both_right(one, another, more) == (first, second):
                    middle = _between(start, relation, link, end)
                    if middle is not None:
                        return ((start, middle, one, another), (middle, end, more), True)
                if self._both_left(one, another, more) == (first, second):
                    middle = _between(start, link, relation, end)
                    if middle is not None:
                        return ((middle, end, one, another), (start, middle, more), False)
        return None

    def _trees_of_turn(self, twist):
        """The two trees of a twist that is a turn."""
        start, end, one, another = twist
        numbers = range(len(self._sums))
        for a, b, c in [(left, inner, right) for left in numbers for inner in numbers for right in numbers]:
            if self._turned(a, b, c) in ((one, another), (another, one)):
                left, inner, right = self._links[a], self._links[b], self._links[c]
                first = _between(start, left, _through(inner, right), end)
                if first is not None:
                    second = _between(first, inner, right, end)
                    x = self._growth.tree_of((start, first, a))
                    y = self._growth.tree_of((first, second, b))
                    z = self._growth.tree_of((second, end, c))
                    return (((x, y), z), (x, (y, z)))
        return None


def _through(relation, other):
    """The relation of one and then the other."""
    found = []
    for nodes in relation:
        reached = 0
        for node in members(nodes):
            reached = reached | other[node]
        found.append(reached)
    return found


def _between(start, relation, other, end):
    """The first node by which the one relation and then the other lead from the start to the end, or None."""
    for node in members(relation[start]):
        if (other[node] >> end) & 1:
            return node
    return None


def _joined(relation, other):
    """What leads by one of both relations."""
    return [nodes | more for nodes, more in zip(relation, other)]


def twists(table, pattern):
    """The twists (node, node, outcome, outcome) with different outcomes, sorted as if None were the empty string."""
    growth = full_growth(table, pattern)
    twisting = Twisting(growth, numbered_sums(table), max(list(growth.fewest.values())))
    found = numbered_outcomes(table)
    # the outcomes are numbered in this very order
    return [(start, end, found[one], found[other]) for start, end, one, other in sorted(twisting.all_of_them())]


def unfree(table, pattern):
    """None if the pattern is free, otherwise two trees over a row of it that differ by one turn and in outcome."""
    growth = full_growth(table, pattern)
    sums = numbered_sums(table)
    stops = ends(pattern)
    # spans with few leaves are enough for most twists, and with the others a tree may be too large to walk through
    sizes = sorted(set(list(growth.fewest.values())))
    low = 0
    high = len(sizes) - 1
    while low < high:
        middle = (low + high) // 2
        if Twisting(growth, sums, sizes[middle]).whole(stops) is None:
            low = middle + 1
        else:
            high = middle
    twisting = Twisting(growth, sums, sizes[low])
    found = twisting.whole(stops)
    if found is None:
        return None
    depth, twist = found
    return twisting.trees(depth, twist)
