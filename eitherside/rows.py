"""Rows: their left sums, and their bracketings, counted and in order."""

from eitherside.answers import answer
from eitherside.errors import NoOutcome, NoRank, NoRow, NoTree
from eitherside.tables import full_sums, in_order
from eitherside.trees import in_postfix, is_tree, leaves

_MOST_CLASSES = 40


class Tally:
    """How many bracketings of each part of a row have which outcome.

    A part is given by the places of its first class and of the one behind its last. Parts are counted when they are
    asked for, and those with the same classes only once, because trees may have hundreds of leaves.
    """

    def __init__(self, table, row):
        self.row = row
        self.sums = full_sums(table)
        self._is_flat = _is_associative(self.sums, row)
        # for each place the parts that end before it, from the short ones to the long ones, by their words
        self._columns = [[] for _ in range(len(row) + 1)]
        self._words = {}
        self._counted = []

    def count_within(self, low, high):
        """Counts this part and all parts of it."""
        for end in range(low + 1, high + 1):
            column = self._columns[end]
            first = len(column) + 1
            for size in range(first, end - low + 1):
                column.append(self._word(end - size, end))

    def part(self, low, high):
        """A dict from each outcome of a counted part to the number of bracketings with it."""
        return self._counted[self._columns[high][high - low - 1]]

    def _word(self, low, high):
        """The number of the word of the part, its classes one after the other; the word is counted."""
        # a word is known by the word without the last class, and by this class
        shorter = self._columns[high - 1][high - low - 2] if high - low > 1 else None
        word = self._words.setdefault((shorter, self.row[high - 1]), len(self._words))
        if word == len(self._counted):
            self._counted.append(self._count(low, high))
        return word

    def _count(self, low, high):
        """The numbers of a part whose own parts are counted."""
        last = self.row[high - 1]
        size = high - low
        if size == 1:
            return {last: 1}
        if self._is_flat:
            # a single outcome has them all, so their number follows from that of a leaf fewer
            shorter = self.part(low, high - 1)
            return {self.sums[one][last]: shorter[one] * (4 * size - 6) // size for one in shorter}
        found = {}
        for middle in range(low + 1, high):
            self.combine(self.part(low, middle), self.part(middle, high), found)
        return found

    def combine(self, lefts, rights, found):
        """Adds to the numbers found those of the trees that are put together from these ones."""
        for left, many in lefts.items():
            row = self.sums[left]
            for right, more in rights.items():
                one = row[right]
                found[one] = found.get(one, 0) + many * more


def _is_associative(sums, row):
    """Whether brackets change nothing over the classes of the row and all that comes of them."""
    found = []
    waiting = sorted(set(row))
    while waiting:
        one = waiting.pop()
        if one not in found:
            found.append(one)
            for other in found:
                waiting.extend([sums[one][other], sums[other][one]])
    return all([sums[sums[a][b]][c] == sums[a][sums[b][c]] for a in found for b in found for c in found])


def _tally_of(table, row):
    """The tally of a row with all its parts. Raises NoRow if it is not a row of the table that may be passed."""
    _check_row(row, table.classes())
    tally = Tally(table, row)
    tally.count_within(0, len(row))
    return tally


def _check_row(row, classes):
    """Raises NoRow if it is not a row of these classes that may be passed."""
    if not isinstance(row, tuple) or not 1 <= len(row) <= _MOST_CLASSES:
        raise NoRow(row)
    if not all([name in classes for name in row]):
        raise NoRow(row)


def _check_tree(tree, classes):
    """Raises NoTree if it is not a tree over these classes."""
    if not is_tree(tree) or not all([name in classes for name in leaves(tree)]):
        raise NoTree(tree)


def outcome_of(table, tree):
    """The outcome of the tree."""
    _check_tree(tree, table.classes())
    return sums_made(table, tree)[0]


def sums_made(table, tree):
    """The outcome of the tree, and a dict from each pair of classes whose sum occurs in it to the outcome of these."""
    done = []
    made = {}
    for name in in_postfix(tree):
        if name is None:
            right = done.pop()
            left = done.pop()
            if left is None or right is None:
                done.append(None)
            else:
                made[left, right] = table[left, right]
                done.append(made[left, right])
        else:
            done.append(name)
    return (done[0], made)


def left_sum(book, row, *, inplace=False):
    """The outcome of the left bracketing of the row."""
    _check_row(row, book.classes())
    found = row[0]
    for name in row[1:]:
        if found is not None:
            found = answer(book, found, name, inplace=inplace)[1]
    return found


def counts(table, row):
    """The tuples (outcome, number of bracketings with it)."""
    found = _tally_of(table, row).part(0, len(row))
    return [(one, found[one]) for one in in_order(found)]


def _many_with(tally, outcome):
    """The number of bracketings of the row that have any value as their outcome."""
    if outcome is not None and not isinstance(outcome, str):
        return 0
    return tally.part(0, len(tally.row)).get(outcome, 0)


def bracketing(table, row, outcome, *, rank=0):
    """The bracketing with this outcome that has so many of these before it."""
    tally = _tally_of(table, row)
    many = _many_with(tally, outcome)
    if many == 0:
        raise NoOutcome(outcome)
    if not isinstance(rank, int) or isinstance(rank, bool) or not 0 <= rank < many:
        raise NoRank(rank)
    return _reach(tally, 0, len(row), {outcome: 1}, rank)[0]


def _reach(tally, low, high, weights, rank):
    """The bracketing with which the sum of the weights of the bracketings, in order, exceeds the rank.

    Each weighs what its outcome does. Returns the tree, its outcome, and what the others leave of the rank.
    """
    if high - low == 1:
        return (tally.row[low], tally.row[low], rank)
    lefts = {}
    for middle in range(low + 1, high):
        here = tally.part(low, middle)
        lefts = _weights_of_lefts(tally, here, tally.part(middle, high), weights)
        many = sum([here[one] * lefts[one] for one in here])
        if rank < many:
            break
        rank -= many
    left, one, rank = _reach(tally, low, middle, lefts, rank)
    rights = {other: weights.get(tally.sums[one][other], 0) for other in tally.part(middle, high)}
    right, other, rank = _reach(tally, middle, high, rights, rank)
    return ((left, right), tally.sums[one][other], rank)


def _weights_of_lefts(tally, lefts, rights, weights):
    """A dict from each outcome of a left part to the weight of the trees with one such part."""
    found = {}
    for left in lefts:
        row = tally.sums[left]
        found[left] = sum([rights[right] * weights.get(row[right], 0) for right in rights])
    return found


def bracketings(table, row, outcome):
    """All bracketings with this outcome, in order."""
    tally = _tally_of(table, row)
    high = len(row)
    wanted = [outcome] if _many_with(tally, outcome) else []
    for tree, _ in _trees_with(tally, 0, high, wanted):
        yield tree


def _trees_with(tally, low, high, wanted):
    """The bracketings of the part with one of the wanted outcomes, in order, each with its outcome.

    All that is wanted comes, so the single bracketing of a class is wanted if anything is.
    """
    if not wanted:
        return
    if high - low == 1:
        yield (tally.row[low], tally.row[low])
    for middle in range(low + 1, high):
        rights = tally.part(middle, high)
        lefts = [one for one in tally.part(low, middle) if _are_wanted(tally, one, rights, wanted)]
        for left, one in _trees_with(tally, low, middle, lefts):
            others = _are_wanted(tally, one, rights, wanted)
            for right, other in _trees_with(tally, middle, high, others):
                yield ((left, right), tally.sums[one][other])


def _are_wanted(tally, left, rights, wanted):
    """The outcomes of right parts with which the sum of the left one is among the wanted."""
    return [right for right in rights if tally.sums[left][right] in wanted]


def rank_of(table, tree):
    """The number of bracketings before the tree that have the same row and outcome."""
    _check_tree(tree, table.classes())
    tally = Tally(table, leaves(tree))
    done = []
    low = 0
    for name in in_postfix(tree):
        if name is None:
            right = done.pop()
            left = done.pop()
            done.append(_put_together(tally, left, right))
        else:
            done.append((low, low + 1, name, {}))
            low += 1
    _, _, found, before = done[0]
    return before.get(found, 0)


def _put_together(tally, left, right):
    """A tree of two others; each is (low, high, outcome, numbers of the bracketings before it by their outcomes)."""
    low, middle, one, before_left = left
    _, high, other, before_right = right
    before = {}
    # nothing is before a single class, so nothing has to be counted beside it
    if middle - low > 1:
        tally.count_within(low, middle - 1)
        tally.count_within(low + 1, high)
        for earlier in range(low + 1, middle):
            tally.combine(tally.part(low, earlier), tally.part(earlier, high), before)
        tally.combine(before_left, tally.part(middle, high), before)
    tally.combine({one: 1}, before_right, before)
    return (low, high, tally.sums[one][other], before)


def unfree_row(table, row):
    """None if the row is free, otherwise two bracketings that differ by one turn and in their outcomes."""
    tally = _tally_of(table, row)
    found = in_order(tally.part(0, len(row)))
    if len(found) == 1:
        return None
    # turns to the right lead to the bracketing (a, (b, ..)), so one of them leads away from any other outcome
    target = _right_sum(tally.sums, row)
    other = found[0] if found[0] != target else found[1]
    tree = _reach(tally, 0, len(row), {other: 1}, 0)[0]
    after = _turned_right(tree)
    while outcome_of(table, after) == other:
        tree = after
        after = _turned_right(tree)
    return (tree, after)


def _right_sum(sums, row):
    """The outcome of the bracketing (a, (b, ..)) of the row."""
    found = row[-1]
    for name in row[-2::-1]:
        found = sums[name][found]
    return found


def _turned_right(tree):
    """The tree with a turn to the right at the first of its right parts where one can be made."""
    left, right = tree
    if isinstance(left, str):
        return (left, _turned_right(right))
    return (left[0], (left[1], right))
