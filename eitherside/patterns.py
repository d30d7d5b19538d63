"""Patterns: their texts, their rows, and the steps that read these."""

from eitherside.books import is_name
from eitherside.errors import NoPattern, NoText

_MOST_DEPTH = 6
_MOST_CLASSES = 12
_MOST_PARTS = 4


def is_pattern(value):
    """Whether any value is a pattern over names."""
    return _is_part(value, _MOST_DEPTH) and len(_names_of(value)) <= _MOST_CLASSES


def _is_part(value, depth):
    """Whether any value is a pattern of at most this depth, with any number of classes."""
    if depth == 0 or not isinstance(value, tuple) or len(value) != 2:
        return False
    kind, inner = value
    if kind == "one":
        return is_name(inner)
    if kind == "many":
        return _is_part(inner, depth - 1)
    if kind not in ("any", "row") or not isinstance(inner, tuple):
        return False
    return 2 <= len(inner) <= _MOST_PARTS and all([_is_part(part, depth - 1) for part in inner])


def _names_of(pattern):
    """The classes of the pattern from left to right, each as often as it stands there."""
    kind, inner = pattern
    if kind == "one":
        return [inner]
    if kind == "many":
        return _names_of(inner)
    return [name for part in inner for name in _names_of(part)]


def check_pattern(pattern, classes):
    """Raises NoPattern if it is not a pattern with these classes."""
    if not is_pattern_over(pattern, classes):
        raise NoPattern(pattern)


def is_pattern_over(value, classes):
    """Whether any value is a pattern with these classes."""
    return is_pattern(value) and all([name in classes for name in _names_of(value)])


def show_pattern(pattern):
    """The text of the pattern."""
    kind, inner = pattern
    if kind == "one":
        return inner
    if kind == "many":
        return show_pattern(inner) + "+"
    sign = "|" if kind == "any" else " "
    return "(" + sign.join([show_pattern(part) for part in inner]) + ")"


def read_pattern(text):
    """The pattern with this text."""
    pattern = _read_loosely(text) if isinstance(text, str) else None
    # what the loose reader passes over is not in the pattern's own text
    if not is_pattern(pattern) or show_pattern(pattern) != text:
        raise NoText(0)
    return pattern


def _read_loosely(text):
    """The pattern, if this is a text of one; anything for another text."""
    for sign in "()|+":
        text = text.replace(sign, f" {sign} ")
    # None stands for a parenthesis that is not closed yet
    done = []
    for word in text.split():
        if word == "(":
            done.append(None)
        elif word == ")":
            inner = _taken_back(done)
            done.append(("any" if "|" in inner else "row", tuple([part for part in inner if part != "|"])))
        elif word == "+" and done:
            done.append(("many", done.pop()))
        elif word == "|":
            done.append(word)
        else:
            done.append(("one", word))
    return done[0] if len(done) == 1 else None


def _taken_back(done):
    """What stands behind the last open parenthesis; it is taken from the list with the parenthesis."""
    inner = []
    while done and done[-1] is not None:
        inner.append(done.pop())
    if done:
        done.pop()
    return inner[::-1]


def steps(pattern):
    """The tuples (node, node, class)."""
    starts, _, pairs = _checked_outline(pattern)
    names = [""] + _names_of(pattern)
    return sorted(set([(node, target, names[target]) for node, target in pairs + [(0, one) for one in starts]]))


def ends(pattern):
    """The nodes at which a row may end."""
    _, stops, _ = _checked_outline(pattern)
    return stops


def _checked_outline(pattern):
    """The outline of any value, NoPattern if it is no pattern."""
    if not is_pattern(pattern):
        raise NoPattern(pattern)
    return _outline(pattern, 1)


def _outline(pattern, number):
    """The nodes at which rows begin and end, and the pairs that follow each other; the first node has the number."""
    kind, inner = pattern
    if kind == "one":
        return ([number], [number], [])
    if kind == "many":
        starts, stops, pairs = _outline(inner, number)
        return (starts, stops, pairs + _each_with_each(stops, starts))
    starts, stops, pairs = _outline(inner[0], number)
    for index in range(1, len(inner)):
        number += len(_names_of(inner[index - 1]))
        more_starts, more_stops, more_pairs = _outline(inner[index], number)
        pairs = pairs + more_pairs
        if kind == "any":
            starts, stops = starts + more_starts, stops + more_stops
        else:
            pairs, stops = pairs + _each_with_each(stops, more_starts), more_stops
    return (starts, stops, pairs)


def _each_with_each(lefts, rights):
    """The pairs of a left one and a right one."""
    return [(left, right) for left in lefts for right in rights]


def ways_of(pattern):
    """A dict from each node to the list of the tuples (node, class) to which a step leads from it."""
    ways = {node: [] for node in range(len(_names_of(pattern)) + 1)}
    for node, target, name in steps(pattern):
        ways[node].append((target, name))
    return ways


def matches(pattern, row):
    """Whether any value is a row of the pattern."""
    stops = ends(pattern)
    if not isinstance(row, tuple):
        return False
    ways = ways_of(pattern)
    nodes = [0]
    for word in row:
        nodes = sorted({target for node in nodes for target, name in ways[node] if name == word})
    return any([node in stops for node in nodes])


def rows(pattern):
    """The rows of the pattern in order, each once."""
    # the nodes from which a row may end so many steps later
    able = [ends(pattern)]
    ways = ways_of(pattern)
    reached = _after([0], ways)
    while reached:
        yield from _rows_as_long_as(able, ways)
        reached = _after(reached, ways)
        able = [*able, [node for node in ways if any([target in able[-1] for target, _ in ways[node]])]]


def _after(nodes, ways):
    """The nodes to which a step leads from one of these."""
    return sorted({target for node in nodes for target, _ in ways[node]})


def _rows_as_long_as(able, ways):
    """The rows with as many classes as the list has items, in order, each once."""
    waiting = [((), [0])]
    while waiting:
        row, nodes = waiting.pop()
        left = len(able) - len(row)
        if left == 0:
            yield row
        else:
            waiting.extend(_longer(row, nodes, able[left - 1], ways))


def _longer(row, nodes, able, ways):
    """The row with each class more that leads to able nodes, beside these nodes; the last one first."""
    targets = {}
    for node in nodes:
        for target, name in ways[node]:
            if target in able:
                found = targets.setdefault(name, {})
                found[target] = True
    return [(row + (name,), list(targets[name])) for name in sorted(targets, reverse=True)]
