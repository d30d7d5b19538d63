"""Points 3, 16 and 18 to 20: a claim has a paper exactly if it is true."""

import copy
import random
import unittest

from eitherside.books import Book
from eitherside.errors import NoClaim
from eitherside.looker import holds
from eitherside.papers import paper_of
from eitherside.rows import outcome_of
from eitherside.trees import leaves
from helper import (
    error_of,
    is_paper,
    is_true,
    many,
    no_claims,
    one,
    random_claims,
    random_table,
    row_of,
    small_book,
    some,
    table_by,
)

KINDS = ["comes", "never", "free", "unfree", "orderless", "ordered", "broken"]


class Papers(unittest.TestCase):
    def check(self, table, claim):
        """Whether there is a paper, which is checked."""
        paper = paper_of(table, claim)
        if paper is None:
            return False
        self.assertIs(holds(table, claim, paper), True)
        self.assertEqual(paper_of(table, claim), paper)
        return True

    def test_a_paper_exactly_if_the_claim_is_true(self):
        found = []
        for table, claim in random_claims(random.Random(131), 130):
            truth = is_true(table, claim)
            self.assertEqual(self.check(table, claim), truth, claim)
            if truth:
                self.assertTrue(is_paper(table, claim, paper_of(table, claim)))
            found.append((claim[0], truth))
        for kind in KINDS:
            for truth in (True, False):
                self.assertGreater(found.count((kind, truth)), 3)

    def test_one_of_two_contrary_claims(self):
        for table, claim in random_claims(random.Random(132), 80, "abcd", 6):
            contrary = {"comes": "never", "free": "unfree", "orderless": "ordered"}.get(claim[0])
            if contrary is not None:
                self.assertNotEqual(self.check(table, claim), self.check(table, (contrary,) + claim[1:]))

    def test_broken_for_each_number(self):
        chance = random.Random(133)
        found = []
        for _ in range(110):
            table = random_table(chance, "abc", chance.choice([0, 0.3]))
            rows = [row_of(*[chance.choice("abc") for _ in range(3)]) for _ in range(2)]
            pattern = chance.choice([rows[0], some(*rows), many(some("a", "b"))])
            for number in range(3):
                claim = ("broken", pattern, number)
                truth = is_true(table, claim)
                self.assertEqual(self.check(table, claim), truth)
                found.append((number, truth))
                if truth:
                    self.assertTrue(is_paper(table, claim, paper_of(table, claim)))
        for number in range(3):
            self.assertGreater(found.count((number, True)), 1)
            self.assertGreater(found.count((number, False)), 1)

    def test_ordered_and_orderless(self):
        table = small_book().table()
        self.assertEqual(paper_of(table, ("orderless", ("m", "n"))), ["m", "n"])
        self.assertEqual(paper_of(table, ("orderless", ("s",))), ["", "s"])
        self.assertIsNone(paper_of(table, ("ordered", ("m", "n"))))
        left = table_by("ab", lambda left, right: left)
        self.assertIsNone(paper_of(left, ("orderless", ("a", "b"))))
        self.assertEqual(sorted(paper_of(left, ("ordered", ("a", "b")))), [("a", "b"), ("b", "a")])

    def test_some_by_hand(self):
        table = small_book().table()
        self.assertEqual(paper_of(table, ("comes", many("n"), "n")), "n")
        self.assertEqual(paper_of(table=table, claim=("comes", row_of("n", many("s")), None)), ("n", "s"))
        self.assertIsNone(paper_of(table, ("comes", many("n"), None)))
        self.assertTrue(is_paper(table, ("never", many("n"), None), paper_of(table, ("never", many("n"), None))))
        self.assertIsNone(paper_of(table, ("never", many("n"), "n")))
        self.assertTrue(is_paper(table, ("free", many("n")), paper_of(table, ("free", many("n")))))
        self.assertIsNone(paper_of(table, ("unfree", many("n"))))
        self.assertEqual(paper_of(table, ("broken", row_of("n", "s"), 0)), ((("n", "s"),), ()))
        self.assertIsNone(paper_of(table, ("broken", row_of("n", "s"), 1)))
        self.assertIsNone(paper_of(table, ("broken", one("s"), 0)))

    def test_a_broken_pattern_by_hand(self):
        nothing = table_by("a", lambda left, right: None)
        self.assertIsNone(paper_of(nothing, ("broken", many("a"), 1)))
        table = table_by("ab", lambda left, right: None)
        claim = ("broken", some(row_of("a", "a"), row_of("b", "b")), 1)
        (tree,), papers = paper_of(table, claim)
        # two changes of the one pair, and after each of them the other pair still raises
        other = {"a": "b", "b": "a"}[tree[0]]
        self.assertEqual(papers, ((((other, other),), ()),) * 2)

    def test_none_is_written_as_the_empty_string(self):
        nothing = table_by("ab", lambda left, right: None)
        claim = ("never", many(some("a", "b")), "a")
        self.assertIsNone(paper_of(nothing, claim))
        paper = paper_of(nothing, ("never", row_of(many("a"), "b"), "b"))
        self.assertIn((0, 2, ""), paper)
        self.assertEqual(paper, sorted(paper))
        triples, twists = paper_of(nothing, ("free", many("a")))
        self.assertEqual((triples, twists), ([(0, 1, ""), (0, 1, "a"), (1, 1, ""), (1, 1, "a")], []))

    def test_long_rows_and_large_papers(self):
        names = "abcdefghij"
        following = dict(zip(names, names[1:]))
        double = table_by(names, lambda left, right: following.get(left) if left == right else None)
        self.assertTrue(self.check(double, ("comes", many("a"), "i")))
        self.assertEqual(len(leaves(paper_of(double, ("comes", many("a"), "i")))), 256)
        number = {name: at for at, name in enumerate(names, 1)}
        table = table_by(names, lambda left, right: names[min(number[left] + number[right], 10) - 1])
        self.assertTrue(self.check(table, ("orderless", tuple(names))))
        self.assertTrue(self.check(table.changed(("j", "a", "i")), ("ordered", ("a",))))
        loops = many(row_of(*[row_of(*[many(name) for name in part]) for part in ("abcd", "efgh", "ijab")]))
        chance = random.Random(134)
        table = random_table(chance, names, 0.1)
        for claim in (("unfree", loops), ("comes", loops, None), ("comes", loops, "j")):
            self.assertTrue(self.check(table, claim))
        inner = random_table(chance, names[:9], 0)
        table = table_by(names, lambda left, right: "j" if "j" in left + right else inner[left, right])
        pattern = row_of(many(some(*"abcd")), "j", many(some(*"efgh")))
        for claim in (("free", pattern), ("never", pattern, None), ("never", pattern, "a")):
            self.assertTrue(self.check(table, claim))
        self.assertTrue(self.check(table_by(names, max), ("free", loops)))

    def test_no_repair_has_two_changes_over_four_classes(self):
        chance = random.Random(135)
        patterns = [many(some(*"abcd")), many(row_of(many("a"), many("b"), many(some("c", "d"))))]
        for pattern in patterns:
            for _ in range(8):
                table = random_table(chance, "abcd", chance.choice([0, 0.1, 0.5]))
                for number in (0, 1, 2):
                    self.check(table, ("broken", pattern, number))


class NoClaims(unittest.TestCase):
    def test_values_that_are_no_claims(self):
        table = small_book().table()
        for value in no_claims(table):
            self.assertIs(error_of(NoClaim, lambda: paper_of(table, value)).claim, value)

    def test_a_table_without_classes(self):
        for claim in (("free", one("n")), ("ordered", ("n",)), ("orderless", ()), ("comes", one("n"), None)):
            self.assertEqual(error_of(NoClaim, lambda: paper_of(Book().table(), claim)).claim, claim)

    def test_claims_that_are_at_the_bounds(self):
        table = table_by("abcdefghij", max)
        for claim in (
            ("orderless", tuple("abcdefghij")),
            ("ordered", ("a",)),
            ("comes", one("a"), None),
            ("never", one("a"), "j"),
        ):
            paper = paper_of(table, claim)
            self.assertEqual(paper is not None, claim[0] in ("orderless", "never"))
        three = table_by("abc", max)
        for number in (0, 1, 2):
            self.assertIsNone(paper_of(three, ("broken", many("a"), number)))


class General(unittest.TestCase):
    def test_nothing_is_kept_or_changed(self):
        table = small_book().table()
        for claim in (("never", many("n"), "s"), ("free", many("n")), ("orderless", ("m", "s"))):
            before = copy.deepcopy((table, claim))
            told = copy.deepcopy(paper_of(table, claim))
            paper = paper_of(table, claim)
            for part in [paper] if isinstance(paper, list) else paper or []:
                part.append(0)
            self.assertEqual(paper_of(table, claim), told)
            self.assertEqual((table, claim), before)

    def test_the_outcome_of_what_comes(self):
        table = small_book().table()
        self.assertIsNone(outcome_of(table, paper_of(table, ("comes", many("s"), None))))


if __name__ == "__main__":
    unittest.main()
