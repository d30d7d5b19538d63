"""What several tests use: values, trees and rows from their definitions, and real Python classes made from a book."""

import itertools
import operator

from eitherside.books import Book
from eitherside.patterns import ends, steps
from eitherside.tables import Table

N = ("n", None, (("forward", (("n", "self"),), "decline"),))
M = ("m", "n", (("reflected", (("n", "self"),), "decline"),))
S = ("s", None, ())

NO_NAMES = [
    None, True, False, 0, 1, -1, 10 ** 39,
    "", "self", "other", "super", "raises", "abcdefg", "a" * 2000,
    "A", "aB", "a1", "1", "a b", " a", "a ", "a\n", "\n", "a_b", "a-b", "`", "{", "a.",
    [], ["a"], (), ("a",), (("a",),), ["a", "b"], ("a", "b", "c"),
]

NAMES = [
    "a", "z", "az", "abc", "abcd", "abcde", "abcdef", "zzzzzz",
    "selfs", "sel", "others", "othe", "supers", "supe", "raise", "raised", "none", "true",
]


def chain_to_the_left(levels):
    tree = "a"
    for k in range(levels):
        tree = (tree, "bcd"[k % 3])
    return tree


def chain_to_the_right(levels):
    tree = "a"
    for k in range(levels):
        tree = ("bcd"[k % 3], tree)
    return tree


def chain_by_turns(levels):
    tree = "a"
    for k in range(levels):
        name = "bcd"[k % 3]
        tree = (tree, name) if k % 2 else (name, tree)
    return tree


CHAINS = [chain_to_the_left, chain_to_the_right, chain_by_turns]


def with_bottom(levels, bottom, side):
    """A chain of this many levels with any value at its bottom."""
    value = bottom
    for k in range(levels):
        to_left = side == "left" or (side == "by turns" and k % 2)
        value = (value, "b") if to_left else ("b", value)
    return value


def bracketings(row):
    """All bracketings of a row, straight from their definition."""
    if len(row) == 1:
        return [row[0]]
    return [
        (left, right)
        for k in range(1, len(row))
        for left in bracketings(row[:k])
        for right in bracketings(row[k:])
    ]


def differ_by_one_turn(one, two):
    """The words of point 10, for small trees."""
    if isinstance(one, str) or isinstance(two, str):
        return False
    for low, high in ((one, two), (two, one)):
        if isinstance(low[0], tuple) and high == (low[0][0], (low[0][1], low[1])):
            return True
    if one[0] == two[0]:
        return differ_by_one_turn(one[1], two[1])
    return one[1] == two[1] and differ_by_one_turn(one[0], two[0])


def error_of(kind, ask):
    """The error of this very kind that the call raises."""
    try:
        ask()
    except kind as error:
        return error
    raise AssertionError(f"{kind.__name__} was not raised")


def random_questions_over_tables(chance, number, letters, depth=4, most=12):
    """Tables with patterns of at most so many of their classes."""
    while number:
        names = letters[: chance.randrange(1, len(letters) + 1)]
        pattern = random_pattern(chance, names, depth)
        if len(classes_of(pattern)) <= most:
            number -= 1
            yield random_table(chance, names, chance.choice([0, 0.2, 0.6])), pattern


def in_order(outcomes):
    """The list of what is in this one, ascending, without duplicates, None last."""
    return sorted(set(outcomes) - {None}) + [None] * (None in outcomes)


def small_book():
    return Book([N, M, S])


def table_by(names, rule):
    """The table of these letters with the outcomes of a function of two classes."""
    return Table(tuple(sorted(names)), {pair: rule(*pair) for pair in itertools.product(sorted(names), repeat=2)})


def random_table(chance, names, raising=0.2):
    """Any table; so many of its sums raise."""
    return table_by(names, lambda left, right: None if chance.random() < raising else chance.choice(sorted(names)))


def outcome_by(table, tree):
    """The words of point 9, for small trees."""
    if isinstance(tree, str):
        return tree
    left, right = [outcome_by(table, part) for part in tree]
    return None if left is None or right is None else table.sum_of(left, right)


def random_entries(chance, names):
    """The entries of any book with these classes."""
    entries = []
    for at, name in enumerate(names):
        base = chance.choice([None] + list(names[:at]))
        methods = []
        for side in ("forward", "reflected", "inplace"):
            if chance.random() < 0.5:
                cases = [(chance.choice(names), chance.choice([*names, "self", "other"])) for _ in range(3)]
                methods.append((side, tuple(cases[: chance.randrange(4)]), chance.choice(["decline", "super"])))
        entries.append((name, base, tuple(methods)))
    return entries


def one(name):
    return ("one", name)


def some(*parts):
    """One of several patterns; a string stands for its class."""
    return ("any", tuple(one(part) if isinstance(part, str) else part for part in parts))


def row_of(*parts):
    return ("row", tuple(one(part) if isinstance(part, str) else part for part in parts))


def many(part):
    return ("many", one(part) if isinstance(part, str) else part)


def random_pattern(chance, names, depth):
    kind = chance.choice(["one", "any", "row", "many"]) if depth > 1 else "one"
    if kind == "one":
        return one(chance.choice(names))
    if kind == "many":
        return many(random_pattern(chance, names, depth - 1))
    return (kind, tuple(random_pattern(chance, names, depth - 1) for _ in range(chance.choice([2, 2, 3]))))


def classes_of(pattern):
    """The classes of a pattern from left to right."""
    kind, inner = pattern
    if kind == "one":
        return [inner]
    return classes_of(inner) if kind == "many" else sum(map(classes_of, inner), [])


def rows_up_to(pattern, most):
    """The rows with at most so many classes, straight from point 11, as a set."""
    kind, inner = pattern
    if kind == "one":
        return {(inner,)}
    if kind == "any":
        return set().union(*[rows_up_to(part, most) for part in inner])
    if kind == "row":
        found = {()}
        for part in inner:
            found = behind_each_other(found, rows_up_to(part, most), most)
        return found
    found = fresh = once = rows_up_to(inner, most)
    while fresh:
        fresh = behind_each_other(fresh, once, most) - found
        found = found | fresh
    return found


def behind_each_other(lefts, rights, most):
    return {left + right for left in lefts for right in rights if len(left + right) <= most}


def by_length(found):
    return sorted(found, key=lambda row: (len(row), row))


def with_numbers(pattern, number=1):
    """The pattern with the numbers of its nodes in place of its classes, and the next number."""
    kind, inner = pattern
    if kind == "one":
        return (kind, number), number + 1
    if kind == "many":
        part, number = with_numbers(inner, number)
        return (kind, part), number
    parts = []
    for part in inner:
        part, number = with_numbers(part, number)
        parts.append(part)
    return (kind, tuple(parts)), number


def nodes_by_rows(pattern, most):
    """The steps and the ends that the rows with at most so many classes show."""
    names = [None] + classes_of(pattern)
    rows = rows_up_to(with_numbers(pattern)[0], most)
    steps = {(node, target, names[target]) for row in rows for node, target in zip((0,) + row, row)}
    return sorted(steps), sorted({row[-1] for row in rows})


def rows_between(steps, most):
    """The tuples (node, node, row) of the rows with at most so many classes that lead from one node to another."""
    found = fresh = [(start, end, (name,)) for start, end, name in steps]
    for _ in range(most - 1):
        longer = []
        for start, middle, row in fresh:
            longer += [(start, end, row + (name,)) for other, end, name in steps if other == middle]
        found, fresh = found + longer, longer
    return found


def added(table, left, right):
    """The outcome of two outcomes."""
    return None if left is None or right is None else table.sum_of(left, right)


def spans_by_words(table, steps):
    """All spans over the table, by adding those of two spans until there are no more."""
    found = set()
    fresh = {(start, end, name) for start, end, name in steps}
    while fresh:
        found |= fresh
        fresh = {
            (start, end, added(table, left, right))
            for start, middle, left in found
            for other, end, right in found
            if middle == other
        } - found
    return found


def twists_by_words(table, steps):
    """All twists with different outcomes over the table, in both orders, by adding spans until there are no more."""
    spans = spans_by_words(table, steps)
    fresh = set()
    for start, first, a in spans:
        for again, second, b in spans:
            for last, end, c in spans:
                if first == again and second == last:
                    one, other = added(table, added(table, a, b), c), added(table, a, added(table, b, c))
                    fresh |= {(start, end, one, other), (start, end, other, one)}
    found = set()
    fresh = {twist for twist in fresh if twist[2] != twist[3]}
    while fresh:
        found |= fresh
        fresh = set()
        for start, end, one, other in found:
            for low, high, more in spans:
                if low == end:
                    fresh.add((start, high, added(table, one, more), added(table, other, more)))
                if high == start:
                    fresh.add((low, end, added(table, more, one), added(table, more, other)))
        fresh = {twist for twist in fresh if twist[2] != twist[3]} - found
    return found


def as_strings(parts):
    """The tuple with the empty string in place of None."""
    return tuple("" if part is None else part for part in parts)


# values that are no patterns, at whatever place of a pattern they stand
NO_PATTERNS = NO_NAMES + [
    "a", "one", ("one",), ("one", "a", "a"), ["one", "a"], ("one", ("a",)), ("one", None), ("one", "self"),
    ("one", "A"),
    ("two", (("one", "a"), ("one", "b"))), ("Any", (("one", "a"), ("one", "b"))), (None, (("one", "a"), ("one", "b"))),
    (("any",), (("one", "a"), ("one", "b"))), (("one", "a"), ("one", "b")), ("two", "a"), ("One", "a"), (None, "a"),
    (("one",), "a"), ("one", ("one", "a")),
    ("any", ()), ("any", (("one", "a"),)), ("any", (("one", "a"),) * 5), ("any", [("one", "a"), ("one", "b")]),
    ("any", ("a", "b")), ("any", ("one", "a")), ("any", (("one", "a"), "b")), ("any", "ab"),
    ("any", ("one", "a"), ("one", "b")),
    ("row", ()), ("row", (("one", "a"),)), ("row", (("one", "a"),) * 5), ("row", [("one", "a"), ("one", "b")]),
    ("row", (("one", "a"), ["one", "b"])), ("row", (("one", "a"), None)), ("row", (("one", "a"), ("two", "b"))),
    ("many", "a"), ("many", (("one", "a"),)), ("many", (("one", "a"), ("one", "b"))), ("many", ["one", "a"]), ("many",),
    ("many", ("one", "a"), 1), ("many", None),
]


PYTHON_NAMES = {"forward": "__add__", "reflected": "__radd__", "inplace": "__iadd__"}


class Diary:
    """What was asked while a sum was made."""

    def __init__(self):
        self.attempts = []
        self.depth = 0


def make_method(made, diary, holder, side, cases, ending):
    def method(self, other):
        diary.depth += 1
        place, found = None, NotImplemented
        for index, (argument, result) in enumerate(cases):
            if isinstance(other, made[argument]):
                place = (holder, side, index)
                found = {"self": self, "other": other}.get(result) or made[result]()
                break
        else:
            above = getattr(super(made[holder], self), PYTHON_NAMES[side], None)
            if ending == "super" and above is not None:
                place, found = above(other)
        diary.depth -= 1
        if diary.depth:
            return place, found
        diary.attempts.append((self.__class__.__name__, side, place))
        return found

    return method


def make_classes(entries, diary):
    made = {}
    for name, base, methods in entries:
        body = {PYTHON_NAMES[side]: make_method(made, diary, name, side, *rest) for side, *rest in methods}
        made[name] = type(name, (made[base] if base else object,), body)
    return made


def python_answer(entries, left, right, inplace):
    """The tuple (attempts, outcome), as Python makes the sum."""
    diary = Diary()
    made = make_classes(entries, diary)
    add = operator.iadd if inplace else operator.add
    try:
        return diary.attempts, add(made[left](), made[right]()).__class__.__name__
    except TypeError:
        return diary.attempts, None


def python_places(entries):
    """A dict from each two classes to the place at which Python answers their sum, None if it raises."""
    diary = Diary()
    made = make_classes(entries, diary)
    places = {}
    for left in made:
        for right in made:
            diary.attempts = []
            try:
                made[left]() + made[right]()
            except TypeError:
                pass
            places[left, right] = diary.attempts[-1][2] if diary.attempts else None
    return places


class WideBook(Book):
    """A book with up to twenty entries, as extended ones may be."""

    LIMIT = 20


def sums_again_and_again(table, classes):
    found = set(classes)
    while True:
        more = found | {added(table, left, right) for left in found for right in found}
        if more == found:
            return found
        found = more


def is_orderless_by_sums(table, classes):
    """Whether all sums of the closure may be turned and exchanged."""
    found = sums_again_and_again(table, classes)
    turned = all(
        added(table, added(table, a, b), c) == added(table, a, added(table, b, c))
        for a, b, c in itertools.product(found, repeat=3)
    )
    return turned and all(added(table, a, b) == added(table, b, a) for a, b in itertools.product(found, repeat=2))


def random_orderly_table(chance, names):
    """A table over which brackets and order matter nowhere or almost nowhere."""
    high = chance.choice([max, min, lambda left, right: max(left, right) if left != right else None])
    table = table_by(names, high)
    changes = [tuple(chance.choice(names) for _ in range(3)) for _ in range(chance.choice([0, 0, 1]))]
    return table.changed(*changes)


def is_sound_in_short(table, trees_of_rows):
    """Whether the bracketings that are written out show nothing to the contrary."""
    for trees in trees_of_rows:
        found = {outcome_by(table, tree) for tree in trees}
        if len(found) > 1 or None in found:
            return False
    return True


def trees_of_short_rows(pattern, most):
    return [bracketings(row) for row in sorted(rows_up_to(pattern, most))]


def is_sound_by_words(table, pattern):
    stops = ends(pattern)
    raising = [span for span in spans_by_words(table, steps(pattern)) if span[2] is None]
    found = raising + list(twists_by_words(table, steps(pattern)))
    return not any(part[0] == 0 and part[1] in stops for part in found)


def real_changes(table):
    names = table.classes()
    return [change for change in itertools.product(names, repeat=3) if table[change[:2]] != change[2]]


def fewest_changes(table, pattern, most):
    """How many changes the smallest repair has, from all sets of changes of different pairs; None if more than most."""
    short = trees_of_short_rows(pattern, 4)
    for size in range(most + 1):
        for changes in itertools.combinations(real_changes(table), size):
            if len({change[:2] for change in changes}) == size:
                changed = table.changed(*changes)
                if is_sound_in_short(changed, short) and is_sound_by_words(changed, pattern):
                    return size
    return None


def is_true(table, claim):
    """Whether a claim is true, by adding up all that point 20 speaks of."""
    kind, about, *more = claim
    if kind in ("orderless", "ordered"):
        return is_orderless_by_sums(table, about) == (kind == "orderless")
    if kind == "broken":
        return fewest_changes(table, about, more[0]) is None
    stops = ends(about)
    if kind in ("comes", "never"):
        comes = any((0, end, more[0]) in spans_by_words(table, steps(about)) for end in stops)
        return comes == (kind == "comes")
    twisted = any(twist[0] == 0 and twist[1] in stops for twist in twists_by_words(table, steps(about)))
    return twisted == (kind == "unfree")


def is_paper(table, claim, paper):
    """The words of point 20, for small papers."""
    kind, about, *more = claim
    if kind == "comes":
        return is_tree_over(about, paper) and outcome_by(table, paper) == more[0]
    if kind == "never":
        stops = ends(about)
        wrong = [(0, end, "" if more[0] is None else more[0]) for end in stops]
        return are_closed_triples(table, about, paper) and not any(triple in paper for triple in wrong)
    if kind == "free":
        return isinstance(paper, tuple) and len(paper) == 2 and are_twists(table, about, *paper)
    if kind == "unfree":
        return are_turned_trees(table, about, paper)
    if kind == "orderless":
        return is_orderless_set(table, about, paper)
    if kind == "ordered":
        return are_unequal_trees(table, about, paper)
    return is_broken_paper(table, about, more[0], paper)


def small_leaves(value):
    """The leaves of a tree over any strings, None for any other value."""
    if isinstance(value, str):
        return (value,)
    if not isinstance(value, tuple) or len(value) != 2:
        return None
    left, right = [small_leaves(part) for part in value]
    return None if left is None or right is None else left + right


def is_tree_over(pattern, value):
    row = small_leaves(value)
    return row is not None and row in rows_up_to(pattern, len(row))


def in_paper(outcome):
    return "" if outcome is None else outcome


def added_in_paper(table, left, right):
    return "" if "" in (left, right) else in_paper(table.sum_of(left, right))


def are_tuples(value, outcomes, table):
    """Whether any value is a list as in point 19 of tuples of two nodes and so many outcomes."""
    if type(value) is not list:
        return False
    for item in value:
        if type(item) is not tuple or len(item) != 2 + outcomes:
            return False
        if any(type(node) is not int or node < 0 for node in item[:2]):
            return False
        if any(type(one) is not str or one not in table.classes() + [""] for one in item[2:]):
            return False
    return value == sorted(value) and len(value) == len(set(value))


def are_closed_triples(table, pattern, value):
    if not are_tuples(value, 1, table):
        return False
    known = set(value)
    pairs = [(one, other) for one in known for other in known if one[1] == other[0]]
    made = {(one[0], other[1], added_in_paper(table, one[2], other[2])) for one, other in pairs}
    return set(steps(pattern)) | made <= known


def are_twists(table, pattern, triples, twists):
    if not are_closed_triples(table, pattern, triples) or not are_tuples(twists, 2, table):
        return False
    wanted = set()
    for p, q, a in triples:
        for again, r, b in triples:
            for third, s, c in triples:
                if again == q and third == r:
                    first = added_in_paper(table, added_in_paper(table, a, b), c)
                    wanted.add((p, s, first, added_in_paper(table, a, added_in_paper(table, b, c))))
    for p, q, a, b in twists:
        for start, end, c in triples:
            if start == q:
                wanted.add((p, end, added_in_paper(table, a, c), added_in_paper(table, b, c)))
            if end == p:
                wanted.add((start, q, added_in_paper(table, c, a), added_in_paper(table, c, b)))
    if {twist for twist in wanted if twist[2] != twist[3]} - set(twists):
        return False
    return not any(twist[0] == 0 and twist[1] in ends(pattern) for twist in twists)


def are_turned_trees(table, pattern, value):
    if not isinstance(value, tuple) or len(value) != 2 or not all(is_tree_over(pattern, tree) for tree in value):
        return False
    return differ_by_one_turn(*value) and outcome_by(table, value[0]) != outcome_by(table, value[1])


def is_orderless_set(table, classes, value):
    if type(value) is not list or any(type(one) is not str or one not in table.classes() + [""] for one in value):
        return False
    if value != sorted(set(value)) or not set(classes) <= set(value):
        return False
    for a, b in itertools.product(set(value) - {""}, repeat=2):
        if added_in_paper(table, a, b) not in value or added_in_paper(table, a, b) != added_in_paper(table, b, a):
            return False
    return all(
        added_in_paper(table, added_in_paper(table, a, b), c) == added_in_paper(table, a, added_in_paper(table, b, c))
        for a, b, c in itertools.product(value, repeat=3)
    )


def are_unequal_trees(table, classes, value):
    if not isinstance(value, tuple) or len(value) != 2:
        return False
    row, other = [small_leaves(tree) for tree in value]
    if row is None or other is None or sorted(row) != sorted(other) or not set(row) <= set(classes):
        return False
    return outcome_by(table, value[0]) != outcome_by(table, value[1])


def occurring(table, tree):
    """The pairs of classes whose sums occur in the tree."""
    if isinstance(tree, str):
        return set()
    parts = [outcome_by(table, part) for part in tree]
    here = set() if None in parts else {tuple(parts)}
    return here | occurring(table, tree[0]) | occurring(table, tree[1])


def is_broken_paper(table, pattern, number, value):
    if not isinstance(value, tuple) or len(value) != 2:
        return False
    trees, papers = value
    if not isinstance(trees, tuple) or not isinstance(papers, tuple):
        return False
    if len(trees) == 1:
        if not is_tree_over(pattern, trees[0]) or outcome_by(table, trees[0]) is not None:
            return False
    elif not are_turned_trees(table, pattern, trees):
        return False
    if number == 0:
        return papers == ()
    pairs = set().union(*[occurring(table, tree) for tree in trees])
    changes = [change for change in sorted(real_changes(table)) if change[:2] in pairs]
    if len(papers) != len(changes):
        return False
    return all(
        is_broken_paper(table.changed(change), pattern, number - 1, paper) for change, paper in zip(changes, papers)
    )


def random_claims(chance, number, names="abc", most=5):
    """Tables with claims of all kinds."""
    for table, pattern in random_questions_over_tables(chance, number, names, 3, most):
        if chance.random() < 0.4:
            table = random_orderly_table(chance, table.classes())
        classes = tuple(sorted(chance.sample(table.classes(), chance.randrange(1, len(table.classes()) + 1))))
        outcome = chance.choice(table.classes() + [None])
        for claim in (
            ("comes", pattern, outcome),
            ("never", pattern, outcome),
            ("free", pattern),
            ("unfree", pattern),
            ("orderless", classes),
            ("ordered", classes),
            ("broken", pattern, chance.randrange(3)),
        ):
            yield table, claim


def no_claims(table):
    """Values that are no claims over the classes of a table that has n, m and s."""
    pattern = many(some("n", "m"))
    deep = with_bottom(3000, "n", "left")
    kinds = ["comes", "never", "free", "unfree", "orderless", "ordered", "broken"]
    yield from NO_NAMES
    yield from [deep, (deep,), (deep, deep), (deep, deep, deep), tuple(kinds), ("free", pattern, None, None), {}]
    for kind in kinds:
        yield from [kind, (kind,), [kind, pattern], (kind, pattern, "n", "n"), (kind, deep), (kind, deep, deep)]
        yield from [(kind, pattern, deep), (kind.upper(), pattern), (kind + "s", ("m", "n")), (kind, None), ()]
    for kind in ("free", "unfree"):
        yield from [(kind, pattern, None), (kind, pattern, 0), (kind, ("m", "n")), [kind, pattern]]
    for kind in ("comes", "never"):
        yield from [(kind, pattern), (pattern, kind), (kind, pattern, ""), (kind, pattern, "a")]
        yield from [(kind, pattern, ("n",)), (kind, pattern, True), (kind, pattern, 0), (kind, pattern, ["n"])]
        yield (kind, "n", pattern)
    for number in (-1, 3, True, False, None, "1", "n", (1,), 10 ** 39):
        yield ("broken", pattern, number)
    yield from [("broken", pattern), ("broken", 1, pattern), ("broken", ("m", "n"), 1)]
    for value in NO_PATTERNS + [one("a"), many("a"), row_of("n", "m", many(some("s", "x")))]:
        yield from [("free", value), ("unfree", value), ("comes", value, "n"), ("never", value, None)]
        yield ("broken", value, 1)
    sets = [(), ("n", "m"), ("m", "m"), ["m", "n"], ("m", "n", None), ("m", "n", ""), ("a",), ("m", "n", "z"), "mn"]
    for value in sets + ["m", ("m", ("n",)), ("m", deep), (("m",),), {"m": 1}, ("m", 1), (True,), pattern]:
        yield from [("orderless", value), ("ordered", value)]
    yield from [("orderless", ("m",), 0), ("ordered", ("m", "n"), None), ("orderless", "m", "n")]
