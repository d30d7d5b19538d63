"""Tables: the outcome of each two classes."""

from eitherside.errors import NoChange, NoClass


class Table:
    """Classes, and the outcomes of their sums."""

    def __init__(self, classes, sums):
        """The classes are ascending, and the dict has the outcome of each pair of them."""
        self._classes = list(classes)
        # pairs that raise are left out, so that the length of the dict is that of the table
        self._sums = {pair: sums[pair] for pair in sums if sums[pair] is not None}

    def __getitem__(self, at):
        left, right = at
        return self.sum_of(left, right)

    def __eq__(self, other):
        return isinstance(other, Table) and self._classes == other._classes and self._sums == other._sums

    def __len__(self):
        return len(self._sums)

    def __repr__(self):
        return f"Table({', '.join(self._classes)})"

    def classes(self):
        """The names in ascending order."""
        return list(self._classes)

    def sum_of(self, left, right):
        """The outcome of the sum, None if it raises."""
        for name in (left, right):
            if name not in self._classes:
                raise NoClass(name)
        return self._sums.get((left, right))

    def changed(self, *changes):
        """The table with these changes, one after the other."""
        sums = {pair: self._sums[pair] for pair in self._sums}
        for change in changes:
            if not self._is_change(change):
                raise NoChange(change)
            left, right, result = change
            sums[left, right] = result
        return Table(tuple(self._classes), sums)

    def _is_change(self, value):
        """Whether any value is a change of this table."""
        if not isinstance(value, tuple) or len(value) != 3:
            return False
        return all([name in self._classes for name in value])


def full_sums(table):
    """The outcome of each two outcomes, None among them: a dict from the left ones to dicts from the right ones."""
    names = table.classes()
    sums = {None: {name: None for name in names + [None]}}
    for left in names:
        sums[left] = {right: table[left, right] for right in names}
        sums[left][None] = None
    return sums


def in_order(outcomes):
    """The list of different outcomes in ascending order; None comes last."""
    return sorted([one for one in outcomes if one is not None]) + [one for one in outcomes if one is None]
