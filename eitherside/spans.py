"""The outcomes of all bracketings of all rows of a pattern at once."""

from eitherside.growth import Growth, numbered_outcomes, numbered_sums
from eitherside.patterns import check_pattern, ends
from eitherside.tables import in_order


def full_growth(table, pattern):
    """All spans over the table, with the numbers of their outcomes. Raises NoPattern."""
    growth = _first_growth(table, pattern)
    while growth.grow():
        pass
    return growth


def _first_growth(table, pattern):
    """The spans with one leaf."""
    check_pattern(pattern, table.classes())
    numbers = {name: number for number, name in enumerate(numbered_outcomes(table))}
    return Growth(pattern, numbers, numbered_sums(table))


def spans(table, pattern):
    """The spans (node, node, outcome), sorted as if None were the empty string."""
    growth = full_growth(table, pattern)
    found = numbered_outcomes(table)
    # the outcomes are numbered in this very order
    return [(start, end, found[one]) for start, end, one in sorted(growth.fewest)]


def outcomes(table, pattern):
    """The outcomes that come in the pattern."""
    stops = ends(pattern)
    come = {one: True for start, end, one in spans(table, pattern) if start == 0 and end in stops}
    return in_order(come)


def example(table, pattern, outcome):
    """A tree over a row of the pattern that has any value as its outcome, or None."""
    growth = _first_growth(table, pattern)
    wanted = [number for number, one in enumerate(numbered_outcomes(table)) if one == outcome]
    return _tree_with(growth, ends(pattern), wanted)


def parting(table, other, pattern):
    """A tree over a row of the pattern with different outcomes over both tables, or None."""
    check_pattern(pattern, table.classes())
    check_pattern(pattern, other.classes())
    # a pair of outcomes, one over each table, is an outcome over both
    pairs = [(one, another) for one in numbered_outcomes(table) for another in numbered_outcomes(other)]
    numbers = {one: number for number, (one, another) in enumerate(pairs) if one == another}
    growth = Growth(pattern, numbers, _sums_of_pairs(numbered_sums(table), numbered_sums(other)))
    wanted = [number for number, (one, another) in enumerate(pairs) if one != another]
    return _tree_with(growth, ends(pattern), wanted)


def _sums_of_pairs(sums, others):
    """The sums of the pairs of outcomes, numbered in the order of the pairs."""
    size = len(others)
    return [[one * size + another for one in row for another in more] for row in sums for more in others]


def _tree_with(growth, stops, wanted):
    """A tree over a row from 0 to one of the nodes that has a wanted outcome and as few leaves as possible, or None."""
    found = list(growth.fewest)
    while found:
        for start, end, one in found:
            if start == 0 and end in stops and one in wanted:
                return growth.tree_of((start, end, one))
        found = growth.grow()
    return None
