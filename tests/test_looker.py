"""Points 3, 19 and 20: the looker accepts exactly the papers that the document states."""

import copy
import random
import unittest

from eitherside.books import Book
from eitherside.errors import NoClaim
from eitherside.looker import holds
from eitherside.papers import paper_of
from helper import (
    NO_NAMES,
    chain_by_turns,
    chain_to_the_left,
    chain_to_the_right,
    error_of,
    is_paper,
    many,
    no_claims,
    one,
    random_claims,
    random_table,
    row_of,
    small_book,
    some,
    table_by,
    with_bottom,
)

KINDS = ["comes", "never", "free", "unfree", "orderless", "ordered", "broken"]


def places_in(value, way=()):
    """The ways to all parts of a value."""
    yield way
    if isinstance(value, (list, tuple)):
        for at, part in enumerate(value):
            yield from places_in(part, way + (at,))


def part_at(value, way):
    for at in way:
        value = value[at]
    return value


def with_part(value, way, part):
    """The value with another part at the end of the way."""
    if not way:
        return part
    parts = list(value)
    parts[way[0]] = with_part(parts[way[0]], way[1:], part)
    return type(value)(parts)


def altered(chance, value, pool):
    """The value with an item left out, put in, exchanged or replaced, or with another kind of value."""
    way = chance.choice(list(places_in(value)))
    part = part_at(value, way)
    if not isinstance(part, (list, tuple)) or chance.random() < 0.2:
        return with_part(value, way, chance.choice(pool))
    items = list(part)
    kind = type(part)
    deed = chance.randrange(6)
    at = chance.randrange(len(items) + 1)
    if deed == 0 and items:
        items.pop(at % len(items))
    elif deed == 1:
        items.insert(at, chance.choice(pool + items))
    elif deed == 2 and items:
        other = chance.randrange(len(items))
        items[at % len(items)], items[other] = items[other], items[at % len(items)]
    elif deed == 3 and items:
        items[at % len(items)] = chance.choice(pool)
    elif deed == 4 and items and isinstance(part, list):
        items = sorted(items + [altered_tuple(chance, chance.choice(items), pool)], key=repr)
    else:
        kind = {list: tuple, tuple: list}[kind]
    return with_part(value, way, kind(items))


def altered_tuple(chance, item, pool):
    """The tuple with other parts; any other value as it is."""
    if not isinstance(item, tuple):
        return item
    return tuple(part if chance.random() < 0.6 else chance.choice(pool) for part in item)


class Looker(unittest.TestCase):
    def check(self, table, claim, paper):
        found = holds(table, claim, paper)
        self.assertIs(found, is_paper(table, claim, paper), (table, claim, paper))
        return found

    def test_altered_papers(self):
        chance = random.Random(141)
        found = []
        for table, claim in random_claims(chance, 130):
            paper = paper_of(table, claim)
            if paper is None:
                continue
            pool = table.classes() + ["", None, 0, 1, 2, 7, -1, True, False, "zz", (), [], paper]
            for _ in range(12):
                other = altered(chance, paper, pool)
                found.append((claim[0], self.check(table, claim, other)))
                self.check(table, claim, altered(chance, other, pool))
        for kind in KINDS:
            self.assertGreater(found.count((kind, False)), 8)
        self.assertGreater(len([kind for kind, held in found if held]), 50)

    def test_lists_with_more_or_fewer_tuples(self):
        chance = random.Random(142)
        found = []
        for table, claim in random_claims(chance, 150, "abc", 3):
            paper = paper_of(table, claim)
            if claim[0] not in ("never", "free", "orderless") or paper is None:
                continue
            for _ in range(8):
                other = copy.deepcopy(paper)
                parts = list(zip(other, (1, 2))) if claim[0] == "free" else [(other, int(claim[0] == "never"))]
                for part, outcomes in parts:
                    self.alter(chance, part, outcomes, table.classes() + [""])
                found.append((claim[0], self.check(table, claim, other)))
        for kind in ("never", "free", "orderless"):
            self.assertGreater(found.count((kind, True)), 1)
            self.assertGreater(found.count((kind, False)), 1)

    def alter(self, chance, items, outcomes, pool):
        """Leaves out an item or puts one in, with so many outcomes behind two nodes; the list stays ascending."""
        deed = chance.randrange(3)
        if deed == 0 and items:
            items.pop(chance.randrange(len(items)))
        elif deed == 1 and outcomes:
            nodes = tuple(chance.choice([0, 1, 2, 9, 9, 10 ** 39]) for _ in range(2))
            items.append(nodes + tuple(chance.choice(pool) for _ in range(outcomes)))
        elif deed == 1:
            items.append(chance.choice(pool))
        items[:] = sorted(set(items))

    def test_papers_of_one_claim_for_another(self):
        chance = random.Random(143)
        found = []
        for table, claim in random_claims(chance, 60):
            for other in ("comes", "never"):
                paper = paper_of(table, (other, claim[1], None)) if claim[0] not in ("orderless", "ordered") else None
                found.append(self.check(table, claim, paper))
            paper = paper_of(table, claim)
            for kind in KINDS:
                if paper is not None and len(claim) == 2 and kind in ("free", "unfree", "orderless", "ordered"):
                    if (kind in ("free", "unfree")) == (claim[0] in ("free", "unfree")):
                        found.append(self.check(table, (kind, claim[1]), paper))
        self.assertIn(True, found)
        self.assertIn(False, found)

    def test_papers_for_another_table(self):
        chance = random.Random(144)
        found = []
        for table, claim in random_claims(chance, 100):
            paper = paper_of(table, claim)
            names = table.classes()
            other = table.changed(tuple(chance.choice(names) for _ in range(3)))
            found.append(self.check(other, claim, paper))
        self.assertGreater(found.count(True), 20)
        self.assertGreater(found.count(False), 20)


class ByHand(unittest.TestCase):
    def setUp(self):
        self.table = small_book().table()

    def test_those_of_the_document(self):
        self.assertIs(holds(self.table, ("free", ("many", ("one", "n"))), ([(0, 1, "n"), (1, 1, "n")], [])), True)
        claim = ("broken", ("row", (("one", "n"), ("one", "s"))), 0)
        self.assertIs(holds(self.table, claim, ((("n", "s"),), ())), True)

    def check(self, claim, right, wrong):
        for paper in right:
            self.assertIs(holds(table=self.table, claim=claim, paper=paper), True, paper)
        for paper in wrong:
            self.assertIs(holds(self.table, claim, paper), False, paper)

    def test_comes(self):
        right = ["n", ("n", "n"), ("n", ("n", "n"))]
        self.check(("comes", many("n"), "n"), right, [None, "m", "s", ["n", "n"], ("n",)])
        self.check(("comes", row_of("n", "s"), None), [("n", "s")], [("s", "n"), "n", None, "", ("n", ("n", "s"))])

    def test_never(self):
        claim = ("never", many("n"), "m")
        triples = [(0, 1, "n"), (1, 1, "n")]
        more = [(0, 1, "n"), (1, 1, "n"), (7, 9, "s")]
        whole = [(0, 1, ""), (0, 1, "n"), (0, 1, "s"), (1, 1, ""), (1, 1, "n"), (1, 1, "s")]
        self.check(
            claim,
            [triples, more, whole, triples + [(10 ** 39, 10 ** 39 + 1, "")], [(0, 0, "n")] + triples],
            [
                tuple(triples), triples[:1], triples[1:], [], None, triples[::-1], triples + triples[1:],
                [(0, 1, "n"), (1, 1, "n"), (1, 2, None)], [(0, 1, "n"), (True, 1, "n")], [(False, 1, "n"), (1, 1, "n")],
                [(0, 1, "n"), [1, 1, "n"]], triples + [(7, 9, "zz")], triples + [(7, 9, "a")], triples + [(7, 9)],
                triples + [(7, 9, "s", "s")], [(-1, 0, "n")] + triples, [(-5, -4, "n")] + triples,
                [(0, 1, "m")] + triples,
                [(0, 1, "n"), (0, 1, "s"), (1, 1, "n")], triples + [(7, 7.0, "n")], [("0", 1, "n")], triples + ["n"],
                triples + [(9, 10, "s"), (10, 11, "s")], triples + [(9, 9, "s")],
            ],
        )

    def test_a_step_may_be_known_and_a_sum_not(self):
        self.check(
            ("never", row_of("n", "s"), "n"),
            [[(0, 1, "n"), (0, 2, ""), (1, 2, "s")], [(0, 1, "n"), (0, 2, ""), (0, 2, "s"), (1, 2, "s")]],
            [
                [(0, 1, "n"), (1, 2, "s")],
                [(0, 1, "n"), (0, 2, ""), (0, 2, "n"), (1, 2, "s")],
                [(0, 1, "n"), (0, 2, "")],
            ],
        )
        self.check(("never", row_of("n", "s"), None), [], [[(0, 1, "n"), (0, 2, ""), (1, 2, "s")]])

    def test_free(self):
        triples = [(0, 1, "n"), (1, 1, "n")]
        self.check(
            ("free", many("n")),
            [(triples, []), (triples, [(7, 9, "m", "n")]), (triples, [(7, 9, "n", "n")]), (triples, [(2, 1, "", "s")])],
            [
                triples, [triples, []], (triples, ()), (triples, None), (triples,), (triples, [], []), (triples[:1],
                    []),
                (triples, [(0, 1, "n", "n")]), (triples, [(0, 1, "m", "s")]), (triples, [(7, 9, "n")]), ([], []),
                (triples, [(7, 9, "m", None)]), (triples, [(7, 9, "m", "n"), (7, 8, "m", "n")]), (triples, [(7, 9)]),
                (triples, [(7, True, "m", "n")]), (triples, [(-7, 9, "m", "n")]), (tuple(triples), []),
                (triples, [[7, 9, "m", "n"]]),
                (triples, [(7, 9, "m", "n")] * 2), (triples, [(7, 0, "m", "n")]),
            ],
        )

    def test_free_with_twists_that_have_to_be_there(self):
        self.table = table_by("abc", lambda left, right: "c" if "c" in left + right else "b" if left == right else left)
        pattern = row_of(*"aaa", "c")
        triples, twists = paper_of(self.table, ("free", pattern))
        self.assertEqual(twists, [(0, 3, "a", "b"), (0, 3, "b", "a")])
        # ((a, a), a) is b and (a, (a, a)) is a
        self.check(
            ("free", pattern),
            [(triples, twists), (triples, twists[1:])],
            [
                (triples, twists[:1]), (triples, []), (triples, twists + [(0, 4, "a", "b")]),
                (triples, [(0, 4, "b", "a")]),
            ],
        )

    def test_unfree(self):
        self.table = table_by("ab", lambda left, right: "b" if left + right == "aa" else left)
        left, right = (("a", "a"), "a"), ("a", ("a", "a"))
        self.check(
            ("unfree", row_of(*"aaa")),
            [(left, right), (right, left)],
            [
                (left, left), [left, right], (left,), (left, right, left), None, left, ("a", "a"), ("b", "a"),
                (left, "b"),
            ],
        )
        # both differ by two turns
        self.check(("unfree", row_of(*"aaaa")), [], [((left, "a"), ("a", right))])
        self.check(("unfree", row_of(*"aab")), [], [(left, right)])

    def test_orderless(self):
        self.check(
            ("orderless", ("s",)),
            [["", "s"]],
            [("", "s"), ["s"], ["s", ""], [None, "s"], ["s", None], [], None, ["", "s", "s"], ["", "a", "s"], "s"],
        )
        self.check(
            ("orderless", ("m", "n")),
            [["m", "n"], ["", "m", "n"], ["", "m", "n", "s"]],
            [["m"], ["n"], ["n", "m"], ("m", "n"), [("m",), "n"], ["m", "n", "s"], [["m"], "n"], ["", "m", "n", 1]],
        )
        right = [["m"], ["", "m"], ["m", "n"], ["", "m", "n", "s"]]
        self.check(("orderless", ("m",)), right, [["n"], ["m", "s"], [""]])

    def test_orderless_for_all_classes_of_the_set(self):
        self.table = table_by("abc", lambda left, right: left if "c" in left + right else max(left, right))
        self.check(("orderless", ("a", "b")), [["a", "b"], ["", "a", "b"]], [["a", "b", "c"], ["", "a", "b", "c"]])

    def test_ordered(self):
        self.table = table_by("abc", lambda left, right: left)
        self.check(
            ("ordered", ("a", "b")),
            [(("a", "b"), ("b", "a")), ((("a", "b"), "a"), (("b", "a"), "a"))],
            [
                (("a", "b"), ("a", "b")), ("a", "b"), (("a", "b"), ("b", ("a", "a"))), [("a", "b"), ("b", "a")], None,
                (("a", "c"), ("c", "a")), (("a", "b"),), (("a", "b"), ("b", "a"), "a"), (["a", "b"], ("b", "a")), "a",
            ],
        )

    def test_broken(self):
        self.table = table_by("ab", lambda left, right: None)
        first = ((("a", "a"),), ())
        second = ((("b", "b"),), ())
        pattern = some(row_of("a", "a"), row_of("b", "b"))
        wrong = [
            (("a", "a"), ()), ((("a", "b"),), ()), first[0], (first[0],), (first[0], []), (list(first[0]), ()),
            (first[0], (first,)), first + ((),),
        ]
        self.check(("broken", pattern, 0), [first, second], wrong)
        right = [(first[0], (second, second)), (second[0], (first, first))]
        wrong = [
            (first[0], (second,)), (first[0], (second,) * 3), (first[0], (first, second)), first,
            (first[0], [second] * 2),
        ]
        self.check(("broken", pattern, 1), right, wrong)

    def test_changes_that_change_nothing_have_no_paper(self):
        sums = {"aa": "b", "ab": "a", "ba": "b", "bb": None}
        self.table = table_by("ab", lambda left, right: sums[left + right])
        trees = ((("a", "a"), "a"), ("a", ("a", "a")))
        raising = ((("b", "b"),), ())
        # (a, a), (b, a) and (a, b) occur, and each of them has one other class as outcome
        wrong = [(trees, (raising,) * many) for many in (0, 1, 2, 4, 6)]
        self.check(("broken", some(row_of(*"aaa"), row_of("b", "b")), 1), [(trees, (raising,) * 3)], wrong)

    def test_sums_of_what_raises_do_not_occur(self):
        self.table = table_by("ab", lambda left, right: None)
        tree = (("a", "a"), ("b", "b"))
        raising = ((tree,), ())
        # (a, a) and (b, b) occur, and both together do not, as they raise
        wrong = [((tree,), (raising,) * many) for many in (0, 2, 3, 6, 8)]
        self.check(("broken", row_of(*"aabb"), 1), [((tree,), (raising,) * 4)], wrong)

    def test_the_changes_of_a_paper_are_ascending(self):
        self.table = table_by("ab", lambda left, right: None)
        tree, other = ("a", ("a", "b")), (("a", "a"), "b")
        # if (a, b) is a, both trees still raise, and if it is b, only the other one does
        first, second = ((tree,), ()), ((other,), ())
        right = [((tree,), (first, second)), ((tree,), (second, second))]
        wrong = [(second, first), (first, first), (first,), (first, second, second)]
        wrong = [((tree,), papers) for papers in wrong]
        self.check(("broken", row_of("a", "a", "b"), 1), right, wrong)

    def test_papers_of_papers(self):
        self.table = table_by("ab", lambda left, right: None)
        pattern = some(row_of("a", "a"), row_of("b", "b"), row_of("a", "b"))
        first, second, third = [((pair,), ()) for pair in (("a", "a"), ("b", "b"), ("a", "b"))]
        middle = (second[0], (third, third))
        right = [(first[0], (middle, middle)), (first[0], (middle, (third[0], (second, second))))]
        wrong = [(first[0], (middle, second)), (first[0], (middle, (second[0], (third, second)))), middle, first]
        self.check(("broken", pattern, 2), right, wrong)
        self.check(("broken", pattern, 1), [middle], [right[0], first])


class OtherValues(unittest.TestCase):
    def claims(self):
        table = small_book().table()
        for claim in (
            ("comes", many("n"), "n"), ("comes", many("s"), None), ("never", many("n"), "s"), ("free", many("n")),
            ("orderless", ("m", "n")), ("broken", row_of("n", "s"), 0),
        ):
            yield table, claim
        table = table_by("ab", lambda left, right: "b" if left + right == "aa" else left)
        yield from [(table, ("unfree", many("a"))), (table, ("ordered", ("a", "b"))), (table, ("broken", many("a"), 0))]
        nothing = table_by("abc", lambda left, right: None)
        yield nothing, ("broken", many(some(*"abc")), 2)

    def test_any_value_at_any_place_of_a_paper(self):
        values = NO_NAMES + [{}, "n", "a", ("n", "n"), with_bottom(3000, "n", "left"), with_bottom(3000, 1, "right")]
        values += [[with_bottom(3000, "n", "by turns")], (with_bottom(3000, "n", "left"), ()), 2.5, b"n", object()]
        for table, claim in self.claims():
            paper = paper_of(table, claim)
            for value in values:
                self.assertIn(holds(table, claim, value), (True, False))
                ways = list(places_in(paper))
                for way in ways[:: max(1, len(ways) // 40)]:
                    self.assertIn(holds(table, claim, with_part(paper, way, value)), (True, False))
            for value in NO_NAMES:
                if value != []:
                    self.assertIs(holds(table, claim, value), False)

    def test_trees_of_any_depth(self):
        table = table_by("abcd", max)
        claim = ("comes", many(some(*"abcd")), "d")
        for chain in (chain_to_the_left, chain_to_the_right, chain_by_turns):
            self.assertIs(holds(table, claim, chain(3000)), True)
            self.assertIs(holds(table, ("comes",) + claim[1:2] + ("a",), chain(3000)), False)
        sums = {"aa": "b", "ba": "a", "ab": "b", "bb": "b"}
        left = table_by("ab", lambda left, right: sums[left + right])
        tree, other = (("a", "a"), "a"), ("a", ("a", "a"))
        for _ in range(1500):
            tree, other = ("a", tree), ("a", other)
        self.assertIs(holds(left, ("unfree", many("a")), (tree, tree)), False)
        held = holds(left, ("unfree", many("a")), (tree, other))
        self.assertIs(held, holds(left, ("ordered", ("a",)), (tree, other)))
        self.assertIs(holds(table, ("orderless", ("a",)), [chain_to_the_left(3000)]), False)
        self.assertIs(holds(table, ("never", many("a"), "b"), [(0, 1, chain_to_the_left(3000))]), False)

    def test_papers_of_any_size(self):
        # a claim about few nodes with triples of many others
        table = table_by("ab", max)
        triples = [(0, 1, "a"), (1, 1, "a")]
        more = triples + [(at, at + 1, "ab"[at % 2]) for at in range(10, 20000, 2)]
        self.assertIs(holds(table, ("never", many("a"), "b"), more), True)
        self.assertIs(holds(table, ("free", many("a")), (more, [(0, 4, "a", "b")])), True)
        self.assertIs(holds(table, ("never", many("a"), "b"), more + [(20000, 20001, "a"), (20001, 20002, "a")]), False)
        loops = many(row_of(*[row_of(*[many(name) for name in part]) for part in ("abcd", "efgh", "ijab")]))
        table = random_table(random.Random(145), "abcdefghij", 0.1)
        found = paper_of(table.changed(), ("unfree", loops))
        self.assertIs(holds(table, ("unfree", loops), found), True)
        whole = [(p, q, a) for p in range(14) for q in range(14) for a in [""] + table.classes()]
        self.assertIs(holds(table, ("never", loops, None), whole), False)
        inner = [triple for triple in whole if triple[0] or triple[1] != 12]
        self.assertIs(holds(table, ("never", loops, None), inner), False)
        pairs = [(p, q, a, b) for p in range(1, 13) for q in range(13) for a in "abcdefghij" for b in "abcdefghij"]
        self.assertIs(holds(table, ("free", loops), (whole, pairs)), False)


class NoClaims(unittest.TestCase):
    def test_values_that_are_no_claims(self):
        table = small_book().table()
        for value in no_claims(table):
            for paper in (None, "n", ([(0, 1, "n"), (1, 1, "n")], [])):
                self.assertIs(error_of(NoClaim, lambda: holds(table, value, paper)).claim, value)

    def test_a_table_without_classes(self):
        for claim in (("free", one("n")), ("ordered", ("n",)), ("orderless", ()), ("comes", one("n"), None)):
            self.assertEqual(error_of(NoClaim, lambda: holds(Book().table(), claim, [])).claim, claim)


class General(unittest.TestCase):
    def test_nothing_is_changed(self):
        table = small_book().table()
        for claim in (("never", many("n"), "s"), ("free", many("n")), ("orderless", ("m", "s"))):
            paper = paper_of(table, claim)
            before = copy.deepcopy((table, claim, paper))
            holds(table, claim, paper)
            self.assertEqual((table, claim, paper), before)


if __name__ == "__main__":
    unittest.main()
