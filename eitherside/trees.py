"""Trees: classes, and tuples of two trees.

A tree may be nested deeper than Python can call, compare or hash, so every function here goes through
it with a list of the parts that still wait, and trees are compared by numbers that stand for them.
"""

from eitherside.books import is_name
from eitherside.errors import NoText


def is_tree(value):
    """Whether any value is a tree over names."""
    waiting = [value]
    while waiting:
        part = waiting.pop()
        if isinstance(part, tuple) and len(part) == 2:
            waiting.extend(part)
        elif not is_name(part):
            return False
    return True


def leaves(tree):
    """The row of the tree."""
    return tuple([name for name in in_postfix(tree) if name is not None])


def in_postfix(tree):
    """The leaves from left to right, with None behind each two trees that are put together."""
    found = []
    waiting = [tree]
    while waiting:
        part = waiting.pop()
        if part is None or isinstance(part, str):
            found.append(part)
        else:
            left, right = part
            waiting.extend([None, right, left])
    return found


def left_tree(row):
    """The left bracketing of the row."""
    tree = row[0]
    for name in row[1:]:
        tree = (tree, name)
    return tree


def turned(tree):
    """The trees that differ from this one by one turn.

    None comes twice, even where parts are alike: each turn takes away another one of the tree's brackets.
    """
    found = []
    waiting = [(tree, None)]
    while waiting:
        part, way = waiting.pop()
        if isinstance(part, str):
            continue
        left, right = part
        found.extend([_put_back(other, way) for other in _turned_here(left, right)])
        waiting.append((left, (way, None, right)))
        waiting.append((right, (way, left, None)))
    return found


def _turned_here(left, right):
    """What a turn of the outermost brackets makes of the pair."""
    found = []
    if isinstance(left, tuple):
        found.append((left[0], (left[1], right)))
    if isinstance(right, tuple):
        found.append(((left, right[0]), right[1]))
    return found


def _put_back(part, way):
    """The tree with the part at the end of the way: (way to the pair, its left, its right), None for the part."""
    while way is not None:
        way, left, right = way
        part = (part, right) if left is None else (left, part)
    return part


def is_turn(tree, other):
    """Whether both trees differ by one turn."""
    numbers = {}
    one = _number(tree, numbers)
    two = _number(other, numbers)
    parts = list(numbers)
    while one != two:
        first, second = parts[one], parts[two]
        if isinstance(first, str) or isinstance(second, str):
            return False
        if first[0] == second[0]:
            one, two = first[1], second[1]
        elif first[1] == second[1]:
            one, two = first[0], second[0]
        else:
            # a turn changes both parts of its pair, so it is here or nowhere
            return _turns_right(parts, first, second) or _turns_right(parts, second, first)
    return False


def _turns_right(parts, first, second):
    """Whether the first pair is ((x, y), z) and the second one is (x, (y, z))."""
    low, high = parts[first[0]], parts[second[1]]
    if isinstance(low, str) or isinstance(high, str):
        return False
    return (low[0], low[1], first[1]) == (second[0], high[0], high[1])


def _number(tree, numbers):
    """The number of the tree; the dict gives one to each part: to a class, or to a pair of numbers.

    Parts have the same number exactly if they are equal, and the dict holds them in the order of the numbers.
    """
    done = []
    for name in in_postfix(tree):
        if name is None:
            right = done.pop()
            left = done.pop()
            done.append(numbers.setdefault((left, right), len(numbers)))
        else:
            done.append(numbers.setdefault(name, len(numbers)))
    return done[0]


def show_tree(tree):
    """The text of the tree."""
    words = []
    waiting = [tree]
    while waiting:
        part = waiting.pop()
        if isinstance(part, str):
            words.append(part)
        else:
            left, right = part
            waiting.extend([")", right, " ", left, "("])
    return "".join(words)


def read_tree(text):
    """The tree with this text."""
    tree = _read_loosely(text) if isinstance(text, str) else None
    # the loose reader passes over wrong spaces, which the tree's own text does not have
    if tree is None or show_tree(tree) != text:
        raise NoText(0)
    return tree


def _read_loosely(text):
    """The tree that the text shows with any spaces, or None."""
    # None stands for a bracket that is not closed yet
    done = []
    for word in text.replace("(", " ( ").replace(")", " ) ").split():
        if word == "(":
            done.append(None)
        elif word == ")":
            if not _may_close(done):
                return None
            right = done.pop()
            left = done.pop()
            done[-1] = (left, right)
        elif is_name(word):
            done.append(word)
        else:
            return None
    return done[0] if len(done) == 1 else None


def _may_close(done):
    """Whether the last three are a bracket that is not closed yet and two trees."""
    if len(done) < 3 or done[-3] is not None:
        return False
    return done[-2] is not None and done[-1] is not None
