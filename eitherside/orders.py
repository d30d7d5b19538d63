"""Sets of classes, and whether the outcome of trees over them depends on more than their leaves."""

from eitherside.errors import NoClass
from eitherside.tables import full_sums, in_order


def closure(table, classes):
    """The outcomes of all trees with leaves among the classes."""
    return in_order(_smallest_trees(table, classes))


def disorder(table, classes):
    """None if the classes are orderless, otherwise two trees with the same leaves and different outcomes."""
    trees = _smallest_trees(table, classes)
    sums = full_sums(table)
    # with None everything raises, in any order
    found = [one for one in trees if one is not None]
    for a in found:
        for b in found:
            if sums[a][b] != sums[b][a]:
                return ((trees[a], trees[b]), (trees[b], trees[a]))
    for a, b, c in [(left, inner, right) for left in found for inner in found for right in found]:
        if sums[sums[a][b]][c] != sums[a][sums[b][c]]:
            return (((trees[a], trees[b]), trees[c]), (trees[a], (trees[b], trees[c])))
    return None


def _smallest_trees(table, classes):
    """A dict from each outcome in the closure to a tree with it that has as few leaves as possible."""
    for name in classes:
        if name not in table.classes():
            raise NoClass(name)
    sums = full_sums(table)
    trees = {name: name for name in sorted(set(classes))}
    sizes = {name: 1 for name in trees}
    while fresh := [(left, right) for left in trees for right in trees if sums[left][right] not in trees]:
        left, right = min(fresh, key=lambda pair: sizes[pair[0]] + sizes[pair[1]])
        trees[sums[left][right]] = (trees[left], trees[right])
        sizes[sums[left][right]] = sizes[left] + sizes[right]
    return trees
