"""Claims about tables, and the papers that show them."""

from eitherside.errors import NoClaim
from eitherside.free import twists, unfree
from eitherside.orders import closure, disorder
from eitherside.patterns import ends, is_pattern_over
from eitherside.repairs import Flaws, changes_in
from eitherside.spans import example, spans

_MOST_CLASSES = 10
_MOST_CHANGES = 2


def check_claim(table, claim):
    """Raises NoClaim if any value is not a claim over the classes of the table."""
    if not isinstance(claim, tuple) or not _is_claim(table.classes(), claim):
        raise NoClaim(claim)


def _is_claim(classes, value):
    """Whether the tuple is a claim over these classes."""
    if len(value) == 2:
        kind, about = value
        if kind in ("orderless", "ordered"):
            return _is_set(classes, about)
        return kind in ("free", "unfree") and is_pattern_over(about, classes)
    if len(value) == 3:
        kind, pattern, more = value
        if kind in ("comes", "never"):
            return is_pattern_over(pattern, classes) and (more is None or more in classes)
        return kind == "broken" and is_pattern_over(pattern, classes) and _is_number(more)
    return False


def _is_set(classes, value):
    """Whether any value is an ascending tuple of one to ten of these classes."""
    if not isinstance(value, tuple) or not 1 <= len(value) <= _MOST_CLASSES:
        return False
    return all([name in classes for name in value]) and list(value) == sorted(set(value))


def _is_number(value):
    """Whether any value is a number of changes that a claim may name."""
    return isinstance(value, int) and not isinstance(value, bool) and 0 <= value <= _MOST_CHANGES


def in_papers(outcome):
    """What is written for the outcome."""
    return "" if outcome is None else outcome


def paper_of(table, claim):
    """A paper of the claim, None if it is false."""
    check_claim(table, claim)
    maker = _MAKERS[claim[0]]
    about = claim[1:]
    return maker(table, *about)


def _paper_of_comes(table, pattern, outcome):
    """A paper that the outcome comes, or None."""
    return example(table, pattern, outcome)


def _paper_of_never(table, pattern, outcome):
    """A paper that the outcome does not come, or None."""
    found = spans(table, pattern)
    stops = ends(pattern)
    if any([start == 0 and end in stops and one == outcome for start, end, one in found]):
        return None
    return _written(found)


def _paper_of_free(table, pattern):
    """A paper that the pattern is free, or None."""
    found = twists(table, pattern)
    stops = ends(pattern)
    if any([start == 0 and end in stops for start, end, _, _ in found]):
        return None
    return (_written(spans(table, pattern)), _written(found))


def _written(items):
    """The tuples as they are written in papers; they stay in order."""
    return [tuple([in_papers(part) for part in item]) for item in items]


def _paper_of_unfree(table, pattern):
    """A paper that the pattern is not free, or None."""
    return unfree(table, pattern)


def _paper_of_orderless(table, classes):
    """A paper that the classes are orderless, or None."""
    if disorder(table, classes) is not None:
        return None
    return sorted([in_papers(outcome) for outcome in closure(table, classes)])


def _paper_of_ordered(table, classes):
    """A paper that the classes are not orderless, or None."""
    return disorder(table, classes)


def _paper_of_broken(table, pattern, many):
    """A paper that no repair has at most so many changes, or None."""
    return _broken(Flaws(pattern), table, many)


def _broken(flaws, table, many):
    """A paper for this number and this table, or None."""
    trees = flaws.flaw_of(table)
    if trees is None:
        return None
    papers = []
    for change in changes_in(table, trees) if many > 0 else []:
        paper = _broken(flaws, table.changed(change), many - 1)
        if paper is None:
            return None
        papers.append(paper)
    return (trees, tuple(papers))


_MAKERS = {
    "comes": _paper_of_comes,
    "never": _paper_of_never,
    "free": _paper_of_free,
    "unfree": _paper_of_unfree,
    "orderless": _paper_of_orderless,
    "ordered": _paper_of_ordered,
    "broken": _paper_of_broken,
}
