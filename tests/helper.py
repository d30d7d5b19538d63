"""What several tests use: values, trees from their definitions, and real Python classes made from a book."""

import operator

N = ("n", None, (("forward", (("n", "self"),), "decline"),))
M = ("m", "n", (("reflected", (("n", "self"),), "decline"),))
S = ("s", None, ())

NO_NAMES = [
    None, True, False, 0, 1, -1, 10 ** 39,
    "", "self", "other", "super", "raises", "abcdefg", "a" * 2000,
    "A", "aB", "a1", "1", "a b", " a", "a ", "a\n", "\n", "a_b", "a-b", "`", "{", "a.",
    [], ["a"], (), ("a",), (("a",),), ["a", "b"], ("a", "b", "c"),
]

NAMES = [
    "a", "z", "az", "abc", "abcd", "abcde", "abcdef", "zzzzzz",
    "selfs", "sel", "others", "othe", "supers", "supe", "raise", "raised", "none", "true",
]


def chain_to_the_left(levels):
    tree = "a"
    for k in range(levels):
        tree = (tree, "bcd"[k % 3])
    return tree


def chain_to_the_right(levels):
    tree = "a"
    for k in range(levels):
        tree = ("bcd"[k % 3], tree)
    return tree


def chain_by_turns(levels):
    tree = "a"
    for k in range(levels):
        name = "bcd"[k % 3]
        tree = (tree, name) if k % 2 else (name, tree)
    return tree


CHAINS = [chain_to_the_left, chain_to_the_right, chain_by_turns]


def with_bottom(levels, bottom, side):
    """A chain of this many levels with any value at its bottom."""
    value = bottom
    for k in range(levels):
        to_left = side == "left" or (side == "by turns" and k % 2)
        value = (value, "b") if to_left else ("b", value)
    return value


def bracketings(row):
    """All bracketings of a row, straight from their definition."""
    if len(row) == 1:
        return [row[0]]
    return [
        (left, right)
        for k in range(1, len(row))
        for left in bracketings(row[:k])
        for right in bracketings(row[k:])
    ]


def differ_by_one_turn(one, two):
    """The words of point 10, for small trees."""
    if isinstance(one, str) or isinstance(two, str):
        return False
    for low, high in ((one, two), (two, one)):
        if isinstance(low[0], tuple) and high == (low[0][0], (low[0][1], low[1])):
            return True
    if one[0] == two[0]:
        return differ_by_one_turn(one[1], two[1])
    return one[1] == two[1] and differ_by_one_turn(one[0], two[0])


PYTHON_NAMES = {"forward": "__add__", "reflected": "__radd__", "inplace": "__iadd__"}


class Diary:
    """What was asked while a sum was made."""

    def __init__(self):
        self.attempts = []
        self.depth = 0


def make_method(made, diary, holder, side, cases, ending):
    def method(self, other):
        diary.depth += 1
        place, found = None, NotImplemented
        for index, (argument, result) in enumerate(cases):
            if isinstance(other, made[argument]):
                place = (holder, side, index)
                found = {"self": self, "other": other}.get(result) or made[result]()
                break
        else:
            above = getattr(super(made[holder], self), PYTHON_NAMES[side], None)
            if ending == "super" and above is not None:
                place, found = above(other)
        diary.depth -= 1
        if diary.depth:
            return place, found
        diary.attempts.append((self.__class__.__name__, side, place))
        return found

    return method


def make_classes(entries, diary):
    made = {}
    for name, base, methods in entries:
        body = {PYTHON_NAMES[side]: make_method(made, diary, name, side, *rest) for side, *rest in methods}
        made[name] = type(name, (made[base] if base else object,), body)
    return made


def python_answer(entries, left, right, inplace):
    """The tuple (attempts, outcome), as Python makes the sum."""
    diary = Diary()
    made = make_classes(entries, diary)
    add = operator.iadd if inplace else operator.add
    try:
        return diary.attempts, add(made[left](), made[right]()).__class__.__name__
    except TypeError:
        return diary.attempts, None
