"""Whether values are papers of claims.

The links of triples (node, node, key) are a dict from each key to its relation: a dict from the first nodes to the
sets of their second nodes. Nodes have numbers here, and a set is an integer: its bit k tells whether k is in it.
"""

from eitherside.growth import members
from eitherside.papers import check_claim, in_papers
from eitherside.patterns import ends, matches, steps
from eitherside.repairs import changes_in
from eitherside.rows import outcome_of
from eitherside.tables import full_sums
from eitherside.trees import is_tree, is_turn, leaves


def holds(table, claim, paper):
    """Whether any value is a paper of the claim."""
    check_claim(table, claim)
    looker = _LOOKERS[claim[0]]
    about = claim[1:]
    return looker(table, paper, *about)


def _shows_comes(table, paper, pattern, outcome):
    """Whether the paper shows that the outcome comes."""
    return _is_tree_over(pattern, paper) and outcome_of(table, paper) == outcome


def _is_tree_over(pattern, value):
    """Whether any value is a tree over a row of the pattern."""
    return is_tree(value) and matches(pattern, leaves(value))


def _shows_never(table, paper, pattern, outcome):
    """Whether the paper shows that the outcome does not come."""
    sums = _sums_in_papers(table)
    if not _are_items(paper, 1, sums) or not _are_closed(paper, pattern, sums):
        return False
    stops = ends(pattern)
    return not any([start == 0 and end in stops and one == in_papers(outcome) for start, end, one in paper])


def _shows_free(table, paper, pattern):
    """Whether the paper shows that the pattern is free."""
    if not _is_pair(paper):
        return False
    triples, twists = paper
    sums = _sums_in_papers(table)
    if not _are_items(triples, 1, sums) or not _are_items(twists, 2, sums):
        return False
    stops = ends(pattern)
    if any([start == 0 and end in stops for start, end, _, _ in twists]):
        return False
    if not _are_closed(triples, pattern, sums):
        return False
    numbers = _numbers_of(triples + twists)
    links = _links(list(sums), triples, numbers)
    pairs = [(one, other) for one in sums for other in sums]
    twisted = _links(pairs, [(start, end, (one, other)) for start, end, one, other in twists], numbers)
    return _have_turns(links, twisted, sums) and _have_surroundings(links, twisted, sums)


def _is_pair(value):
    """Whether any value is a tuple of two."""
    return isinstance(value, tuple) and len(value) == 2


def _sums_in_papers(table):
    """The outcome of each two outcomes as they are written in papers: a dict of dicts."""
    sums = full_sums(table)
    return {in_papers(left): {in_papers(right): in_papers(sums[left][right]) for right in sums} for left in sums}


def _are_items(value, many, outcomes):
    """Whether any value is an ascending list of tuples of two nodes and so many of the outcomes."""
    if not isinstance(value, list) or not all([_is_item(item, many, outcomes) for item in value]):
        return False
    return all([low < high for low, high in zip(value, value[1:])])


def _is_item(value, many, outcomes):
    """Whether any value is a tuple of two nodes and so many of the outcomes."""
    if not isinstance(value, tuple) or len(value) != 2 + many:
        return False
    return all([_is_node(node) for node in value[:2]]) and all([_is_outcome(one, outcomes) for one in value[2:]])


def _is_node(value):
    """Whether any value is a node in a paper."""
    return isinstance(value, int) and not isinstance(value, bool) and value >= 0


def _is_outcome(value, outcomes):
    """Whether any value is one of the outcomes as they are written in papers."""
    # a value may be nested so deep that it has no hash
    return isinstance(value, str) and value in outcomes


def _are_closed(triples, pattern, sums):
    """Whether the triples have the steps of the pattern, and with each two that meet the one that these make."""
    known = {triple: True for triple in triples}
    if not all([step in known for step in steps(pattern)]):
        return False
    links = _links(list(sums), triples, _numbers_of(triples))
    return all([_lies_in(_through(links[a], links[b]), links[sums[a][b]]) for a in sums for b in sums])


def _numbers_of(items):
    """A dict that numbers the nodes of the items."""
    nodes = sorted(set([node for item in items for node in item[:2]]))
    return {node: number for number, node in enumerate(nodes)}


def _links(keys, triples, numbers):
    """The links of the triples, with a relation for each of the keys."""
    links = {key: {} for key in keys}
    for start, end, key in triples:
        relation = links[key]
        relation[numbers[start]] = relation.get(numbers[start], 0) | (1 << numbers[end])
    return links


def _through(relation, other):
    """The relation of one and then the other."""
    found = {}
    for start, nodes in relation.items():
        reached = 0
        for node in members(nodes):
            reached = reached | other.get(node, 0)
        found[start] = reached
    return found


def _lies_in(relation, other):
    """Whether the other relation has all of this one."""
    return all([(nodes & ~other.get(start, 0)) == 0 for start, nodes in relation.items()])


def _have_turns(links, twisted, sums):
    """Whether each three triples that meet have their twist, if their outcome depends on the brackets."""
    for a in sums:
        for b in sums:
            both = _through(links[a], links[b])
            for c in sums:
                pair = (sums[sums[a][b]][c], sums[a][sums[b][c]])
                if pair[0] != pair[1] and not _lies_in(_through(both, links[c]), twisted[pair]):
                    return False
    return True


def _have_surroundings(links, twisted, sums):
    """Whether each twist has the one that a triple makes of it on either side, if the outcomes stay different."""
    for (one, other), relation in twisted.items():
        for more in sums:
            behind = (sums[one][more], sums[other][more])
            if behind[0] != behind[1] and not _lies_in(_through(relation, links[more]), twisted[behind]):
                return False
            ahead = (sums[more][one], sums[more][other])
            if ahead[0] != ahead[1] and not _lies_in(_through(links[more], relation), twisted[ahead]):
                return False
    return True


def _shows_unfree(table, paper, pattern):
    """Whether the paper shows that the pattern is not free."""
    if not _is_pair(paper) or not all([_is_tree_over(pattern, tree) for tree in paper]):
        return False
    tree, other = paper
    return is_turn(tree, other) and outcome_of(table, tree) != outcome_of(table, other)


def _shows_orderless(table, paper, classes):
    """Whether the paper shows that the classes are orderless."""
    sums = _sums_in_papers(table)
    if not isinstance(paper, list) or not all([_is_outcome(one, sums) for one in paper]):
        return False
    if paper != sorted(set(paper)) or not all([name in paper for name in classes]):
        return False
    pairs = [(a, b) for a in paper for b in paper if a != "" and b != ""]
    if not all([sums[a][b] in paper and sums[a][b] == sums[b][a] for a, b in pairs]):
        return False
    return all([sums[sums[a][b]][c] == sums[a][sums[b][c]] for a, b in pairs for c in paper])


def _shows_ordered(table, paper, classes):
    """Whether the paper shows that the classes are not orderless."""
    if not _is_pair(paper) or not all([is_tree(tree) for tree in paper]):
        return False
    row, other = [sorted(leaves(tree)) for tree in paper]
    if row != other or not all([name in classes for name in row]):
        return False
    return outcome_of(table, paper[0]) != outcome_of(table, paper[1])


def _shows_broken(table, paper, pattern, many):
    """Whether the paper shows that no repair has at most so many changes."""
    if not _is_pair(paper):
        return False
    trees, papers = paper
    if not _is_flaw(table, trees, pattern) or not isinstance(papers, tuple):
        return False
    changes = changes_in(table, trees) if many > 0 else []
    if len(papers) != len(changes):
        return False
    return all([
        _shows_broken(table.changed(change), part, pattern, many - 1) for change, part in zip(changes, papers)
    ])


def _is_flaw(table, value, pattern):
    """Whether any value is a tuple of one tree over a row of the pattern that raises, or of two as for unfree."""
    if isinstance(value, tuple) and len(value) == 1:
        return _shows_comes(table, value[0], pattern, None)
    return _shows_unfree(table, value, pattern)


_LOOKERS = {
    "comes": _shows_comes,
    "never": _shows_never,
    "free": _shows_free,
    "unfree": _shows_unfree,
    "orderless": _shows_orderless,
    "ordered": _shows_ordered,
    "broken": _shows_broken,
}
