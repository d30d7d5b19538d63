"""What several tests use: values, trees and rows from their definitions, and real Python classes made from a book."""

import itertools
import operator

from eitherside.books import Book
from eitherside.tables import Table

N = ("n", None, (("forward", (("n", "self"),), "decline"),))
M = ("m", "n", (("reflected", (("n", "self"),), "decline"),))
S = ("s", None, ())

NO_NAMES = [
    None, True, False, 0, 1, -1, 10 ** 39,
    "", "self", "other", "super", "raises", "abcdefg", "a" * 2000,
    "A", "aB", "a1", "1", "a b", " a", "a ", "a\n", "\n", "a_b", "a-b", "`", "{", "a.",
    [], ["a"], (), ("a",), (("a",),), ["a", "b"], ("a", "b", "c"),
]

NAMES = [
    "a", "z", "az", "abc", "abcd", "abcde", "abcdef", "zzzzzz",
    "selfs", "sel", "others", "othe", "supers", "supe", "raise", "raised", "none", "true",
]


def chain_to_the_left(levels):
    tree = "a"
    for k in range(levels):
        tree = (tree, "bcd"[k % 3])
    return tree


def chain_to_the_right(levels):
    tree = "a"
    for k in range(levels):
        tree = ("bcd"[k % 3], tree)
    return tree


def chain_by_turns(levels):
    tree = "a"
    for k in range(levels):
        name = "bcd"[k % 3]
        tree = (tree, name) if k % 2 else (name, tree)
    return tree


CHAINS = [chain_to_the_left, chain_to_the_right, chain_by_turns]


def with_bottom(levels, bottom, side):
    """A chain of this many levels with any value at its bottom."""
    value = bottom
    for k in range(levels):
        to_left = side == "left" or (side == "by turns" and k % 2)
        value = (value, "b") if to_left else ("b", value)
    return value


def bracketings(row):
    """All bracketings of a row, straight from their definition."""
    if len(row) == 1:
        return [row[0]]
    return [
        (left, right)
        for k in range(1, len(row))
        for left in bracketings(row[:k])
        for right in bracketings(row[k:])
    ]


def differ_by_one_turn(one, two):
    """The words of point 10, for small trees."""
    if isinstance(one, str) or isinstance(two, str):
        return False
    for low, high in ((one, two), (two, one)):
        if isinstance(low[0], tuple) and high == (low[0][0], (low[0][1], low[1])):
            return True
    if one[0] == two[0]:
        return differ_by_one_turn(one[1], two[1])
    return one[1] == two[1] and differ_by_one_turn(one[0], two[0])


def error_of(kind, ask):
    """The error of this very kind that the call raises."""
    try:
        ask()
    except kind as error:
        return error
    raise AssertionError(f"{kind.__name__} was not raised")


def random_questions_over_tables(chance, number, letters, depth=4, most=12):
    """Tables with patterns of at most so many of their classes."""
    while number:
        names = letters[: chance.randrange(1, len(letters) + 1)]
        pattern = random_pattern(chance, names, depth)
        if len(classes_of(pattern)) <= most:
            number -= 1
            yield random_table(chance, names, chance.choice([0, 0.2, 0.6])), pattern


def in_order(outcomes):
    """The list of what is in this one, ascending, without duplicates, None last."""
    return sorted(set(outcomes) - {None}) + [None] * (None in outcomes)


def small_book():
    return Book([N, M, S])


def table_by(names, rule):
    """The table of these letters with the outcomes of a function of two classes."""
    return Table(tuple(sorted(names)), {pair: rule(*pair) for pair in itertools.product(sorted(names), repeat=2)})


def random_table(chance, names, raising=0.2):
    """Any table; so many of its sums raise."""
    return table_by(names, lambda left, right: None if chance.random() < raising else chance.choice(sorted(names)))


def outcome_by(table, tree):
    """The words of point 9, for small trees."""
    if isinstance(tree, str):
        return tree
    left, right = [outcome_by(table, part) for part in tree]
    return None if left is None or right is None else table.sum_of(left, right)


def random_entries(chance, names):
    """The entries of any book with these classes."""
    entries = []
    for at, name in enumerate(names):
        base = chance.choice([None] + list(names[:at]))
        methods = []
        for side in ("forward", "reflected", "inplace"):
            if chance.random() < 0.5:
                cases = [(chance.choice(names), chance.choice([*names, "self", "other"])) for _ in range(3)]
                methods.append((side, tuple(cases[: chance.randrange(4)]), chance.choice(["decline", "super"])))
        entries.append((name, base, tuple(methods)))
    return entries


def one(name):
    return ("one", name)


def some(*parts):
    """One of several patterns; a string stands for its class."""
    return ("any", tuple(one(part) if isinstance(part, str) else part for part in parts))


def row_of(*parts):
    return ("row", tuple(one(part) if isinstance(part, str) else part for part in parts))


def many(part):
    return ("many", one(part) if isinstance(part, str) else part)


def random_pattern(chance, names, depth):
    kind = chance.choice(["one", "any", "row", "many"]) if depth > 1 else "one"
    if kind == "one":
        return one(chance.choice(names))
    if kind == "many":
        return many(random_pattern(chance, names, depth - 1))
    return (kind, tuple(random_pattern(chance, names, depth - 1) for _ in range(chance.choice([2, 2, 3]))))


def classes_of(pattern):
    """The classes of a pattern from left to right."""
    kind, inner = pattern
    if kind == "one":
        return [inner]
    return classes_of(inner) if kind == "many" else sum(map(classes_of, inner), [])


def rows_up_to(pattern, most):
    """The rows with at most so many classes, straight from point 11, as a set."""
    kind, inner = pattern
    if kind == "one":
        return {(inner,)}
    if kind == "any":
        return set().union(*[rows_up_to(part, most) for part in inner])
    if kind == "row":
        found = {()}
        for part in inner:
            found = behind_each_other(found, rows_up_to(part, most), most)
        return found
    found = fresh = once = rows_up_to(inner, most)
    while fresh:
        fresh = behind_each_other(fresh, once, most) - found
        found = found | fresh
    return found


def behind_each_other(lefts, rights, most):
    return {left + right for left in lefts for right in rights if len(left + right) <= most}


def by_length(found):
    return sorted(found, key=lambda row: (len(row), row))


def with_numbers(pattern, number=1):
    """The pattern with the numbers of its nodes in place of its classes, and the next number."""
    kind, inner = pattern
    if kind == "one":
        return (kind, number), number + 1
    if kind == "many":
        part, number = with_numbers(inner, number)
        return (kind, part), number
    parts = []
    for part in inner:
        part, number = with_numbers(part, number)
        parts.append(part)
    return (kind, tuple(parts)), number


def nodes_by_rows(pattern, most):
    """The steps and the ends that the rows with at most so many classes show."""
    names = [None] + classes_of(pattern)
    rows = rows_up_to(with_numbers(pattern)[0], most)
    steps = {(node, target, names[target]) for row in rows for node, target in zip((0,) + row, row)}
    return sorted(steps), sorted({row[-1] for row in rows})


def rows_between(steps, most):
    """The tuples (node, node, row) of the rows with at most so many classes that lead from one node to another."""
    found = fresh = [(start, end, (name,)) for start, end, name in steps]
    for _ in range(most - 1):
        longer = []
        for start, middle, row in fresh:
            longer += [(start, end, row + (name,)) for other, end, name in steps if other == middle]
        found, fresh = found + longer, longer
    return found


def added(table, left, right):
    """The outcome of two outcomes."""
    return None if left is None or right is None else table.sum_of(left, right)


def spans_by_words(table, steps):
    """All spans over the table, by adding those of two spans until there are no more."""
    found = set()
    fresh = {(start, end, name) for start, end, name in steps}
    while fresh:
        found |= fresh
        fresh = {
            (start, end, added(table, left, right))
            for start, middle, left in found
            for other, end, right in found
            if middle == other
        } - found
    return found


def twists_by_words(table, steps):
    """All twists with different outcomes over the table, in both orders, by adding spans until there are no more."""
    spans = spans_by_words(table, steps)
    fresh = set()
    for start, first, a in spans:
        for again, second, b in spans:
            for last, end, c in spans:
                if first == again and second == last:
                    one, other = added(table, added(table, a, b), c), added(table, a, added(table, b, c))
                    fresh |= {(start, end, one, other), (start, end, other, one)}
    found = set()
    fresh = {twist for twist in fresh if twist[2] != twist[3]}
    while fresh:
        found |= fresh
        fresh = set()
        for start, end, one, other in found:
            for low, high, more in spans:
                if low == end:
                    fresh.add((start, high, added(table, one, more), added(table, other, more)))
                if high == start:
                    fresh.add((low, end, added(table, more, one), added(table, more, other)))
        fresh = {twist for twist in fresh if twist[2] != twist[3]} - found
    return found


def as_strings(parts):
    """The tuple with the empty string in place of None."""
    return tuple("" if part is None else part for part in parts)


# values that are no patterns, at whatever place of a pattern they stand
NO_PATTERNS = NO_NAMES + [
    "a", "one", ("one",), ("one", "a", "a"), ["one", "a"], ("one", ("a",)), ("one", None), ("one", "self"),
    ("one", "A"),
    ("two", (("one", "a"), ("one", "b"))), ("Any", (("one", "a"), ("one", "b"))), (None, (("one", "a"), ("one", "b"))),
    (("any",), (("one", "a"), ("one", "b"))), (("one", "a"), ("one", "b")), ("two", "a"), ("One", "a"), (None, "a"), (("one",), "a"), ("one", ("one", "a")),
    ("any", ()), ("any", (("one", "a"),)), ("any", (("one", "a"),) * 5), ("any", [("one", "a"), ("one", "b")]),
    ("any", ("a", "b")), ("any", ("one", "a")), ("any", (("one", "a"), "b")), ("any", "ab"),
    ("any", ("one", "a"), ("one", "b")),
    ("row", ()), ("row", (("one", "a"),)), ("row", (("one", "a"),) * 5), ("row", [("one", "a"), ("one", "b")]),
    ("row", (("one", "a"), ["one", "b"])), ("row", (("one", "a"), None)), ("row", (("one", "a"), ("two", "b"))),
    ("many", "a"), ("many", (("one", "a"),)), ("many", (("one", "a"), ("one", "b"))), ("many", ["one", "a"]), ("many",),
    ("many", ("one", "a"), 1), ("many", None),
]


PYTHON_NAMES = {"forward": "__add__", "reflected": "__radd__", "inplace": "__iadd__"}


class Diary:
    """What was asked while a sum was made."""

    def __init__(self):
        self.attempts = []
        self.depth = 0


def make_method(made, diary, holder, side, cases, ending):
    def method(self, other):
        diary.depth += 1
        place, found = None, NotImplemented
        for index, (argument, result) in enumerate(cases):
            if isinstance(other, made[argument]):
                place = (holder, side, index)
                found = {"self": self, "other": other}.get(result) or made[result]()
                break
        else:
            above = getattr(super(made[holder], self), PYTHON_NAMES[side], None)
            if ending == "super" and above is not None:
                place, found = above(other)
        diary.depth -= 1
        if diary.depth:
            return place, found
        diary.attempts.append((self.__class__.__name__, side, place))
        return found

    return method


def make_classes(entries, diary):
    made = {}
    for name, base, methods in entries:
        body = {PYTHON_NAMES[side]: make_method(made, diary, name, side, *rest) for side, *rest in methods}
        made[name] = type(name, (made[base] if base else object,), body)
    return made


def python_answer(entries, left, right, inplace):
    """The tuple (attempts, outcome), as Python makes the sum."""
    diary = Diary()
    made = make_classes(entries, diary)
    add = operator.iadd if inplace else operator.add
    try:
        return diary.attempts, add(made[left](), made[right]()).__class__.__name__
    except TypeError:
        return diary.attempts, None
