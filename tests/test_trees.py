"""Points 4, 9, 10 and 22: trees, their turns and their texts."""

import itertools
import unittest

from eitherside.errors import NoText
from eitherside.trees import is_tree, is_turn, leaves, left_tree, read_tree, show_tree, turned
from helper import CHAINS, NAMES, NO_NAMES, bracketings, differ_by_one_turn, with_bottom

SIDES = ("left", "right", "by turns")


def small_trees(letters, most):
    """All trees with at most this many leaves from the letters."""
    return [
        tree
        for many in range(1, most + 1)
        for row in itertools.product(letters, repeat=many)
        for tree in bracketings(row)
    ]


class IsTree(unittest.TestCase):
    def test_names_and_pairs_of_trees(self):
        for name in NAMES:
            self.assertIs(is_tree(name), True)
            self.assertIs(is_tree((name, "a")), True)
            self.assertIs(is_tree(("a", ("b", name))), True)
        for tree in small_trees("ab", 4):
            self.assertIs(is_tree(value=tree), True)

    def test_any_other_value(self):
        for value in NO_NAMES:
            for wrong in (value, (value, "a"), ("a", value), ("a", ("b", value)), (("a", value), "b")):
                with self.subTest(repr(wrong)[:60]):
                    self.assertIs(is_tree(wrong), False)
        for wrong in (["a", "b"], [["a", "b"], "c"], (["a", "b"], "c"), ("a", "b", "c"), (("a", "b"),), "(a b)"):
            self.assertIs(is_tree(wrong), False)

    def test_deep_trees(self):
        for chain in CHAINS:
            for levels in (300, 999, 5000):
                self.assertIs(is_tree(chain(levels)), True)

    def test_deep_values_that_are_none(self):
        for side in SIDES:
            for bottom in (None, 1, "self", "B", (), ("a",), ("a", "b", "c"), ["a", "b"]):
                self.assertIs(is_tree(with_bottom(900, bottom, side)), False)
                self.assertIs(is_tree(with_bottom(5000, bottom, side)), False)


class Leaves(unittest.TestCase):
    def test_from_left_to_right(self):
        self.assertEqual(leaves("a"), ("a",))
        self.assertEqual(leaves(tree=(("a", "b"), ("c", "a"))), ("a", "b", "c", "a"))
        for row in itertools.product("ab", repeat=4):
            for tree in bracketings(row):
                self.assertEqual(leaves(tree), row)

    def test_deep_trees(self):
        names = tuple("bcd"[k % 3] for k in range(5000))
        to_left, to_right, by_turns = [leaves(chain(5000)) for chain in CHAINS]
        self.assertEqual(to_left, ("a",) + names)
        self.assertEqual(to_right, names[::-1] + ("a",))
        self.assertEqual(by_turns, names[::2][::-1] + ("a",) + names[1::2])

    def test_the_left_bracketing(self):
        self.assertEqual(left_tree(("a",)), "a")
        self.assertEqual(left_tree(("a", "b")), ("a", "b"))
        self.assertEqual(left_tree(row=("a", "b", "c")), (("a", "b"), "c"))
        self.assertEqual(left_tree(("a", "b", "a", "b")), ((("a", "b"), "a"), "b"))
        for many in (40, 1000, 5000):
            row = tuple("abc"[k % 3] for k in range(many))
            tree = left_tree(row)
            self.assertEqual(leaves(tree), row)
            self.assertEqual(show_tree(tree), "(" * (many - 1) + "a " + ") ".join(row[1:]) + ")")


class Turned(unittest.TestCase):
    def test_what_is_too_small_for_a_turn(self):
        self.assertEqual(turned("a"), [])
        self.assertEqual(turned(("a", "b")), [])

    def test_one_turn_either_way(self):
        self.assertEqual(turned((("a", "b"), "c")), [("a", ("b", "c"))])
        self.assertEqual(turned(tree=("a", ("b", "c"))), [(("a", "b"), "c")])

    def test_at_every_place(self):
        self.assertEqual(
            sorted(map(show_tree, turned((("a", "b"), ("c", "d"))))),
            ["(((a b) c) d)", "(a (b (c d)))"],
        )
        self.assertEqual(
            sorted(map(show_tree, turned((("a", ("b", "c")), "d")))),
            ["(((a b) c) d)", "(a ((b c) d))"],
        )

    def test_exactly_the_trees_that_differ_by_one_turn(self):
        for row in ("abcde", "aabbb", "abaab"):
            trees = bracketings(tuple(row))
            for tree in trees:
                found = turned(tree)
                self.assertEqual(len(found), len(row) - 2)
                expected = [other for other in trees if differ_by_one_turn(tree, other)]
                self.assertEqual(sorted(map(show_tree, found)), sorted(map(show_tree, expected)))

    def test_no_duplicates_where_parts_are_alike(self):
        for many in (3, 4, 5, 6, 7):
            trees = bracketings(("a",) * many)
            for tree in trees:
                found = [show_tree(other) for other in turned(tree)]
                self.assertEqual(len(set(found)), len(found))
                expected = [show_tree(other) for other in trees if differ_by_one_turn(tree, other)]
                self.assertEqual(sorted(found), sorted(expected))

    def test_new_lists_each_time(self):
        tree = (("a", "b"), ("c", "d"))
        first = turned(tree)
        again = turned(tree)
        self.assertIsNot(first, again)
        first.clear()
        self.assertEqual(turned(tree), again)
        self.assertEqual(tree, (("a", "b"), ("c", "d")))

    def test_deep_trees(self):
        for chain in CHAINS:
            tree = chain(600)
            found = turned(tree)
            texts = [show_tree(other) for other in found]
            self.assertEqual(len(set(texts)), 599)
            self.assertNotIn(show_tree(tree), texts)
            for other in found[::97] + [found[0], found[-1]]:
                self.assertEqual(leaves(other), leaves(tree))
                self.assertIs(is_turn(tree, other), True)
                self.assertIs(is_turn(other, tree), True)


class IsTurn(unittest.TestCase):
    def test_either_way_about(self):
        self.assertIs(is_turn((("a", "b"), "c"), ("a", ("b", "c"))), True)
        self.assertIs(is_turn(tree=("a", ("b", "c")), other=(("a", "b"), "c")), True)
        deeper = ((("a", "b"), "c"), ("d", "e"))
        self.assertIs(is_turn(deeper, (("a", ("b", "c")), ("d", "e"))), True)
        self.assertIs(is_turn(deeper, (((("a", "b"), "c"), "d"), "e")), True)

    def test_equal_trees(self):
        for tree in small_trees("ab", 4):
            self.assertIs(is_turn(tree, tree), False)

    def test_two_turns(self):
        tree = ((("a", "b"), "c"), "d")
        self.assertIs(is_turn(tree, ("a", ("b", ("c", "d")))), False)
        self.assertIs(is_turn(tree, ("a", (("b", "c"), "d"))), False)
        both = ((("a", "b"), "c"), (("a", "b"), "c"))
        self.assertIs(is_turn(both, (("a", ("b", "c")), ("a", ("b", "c")))), False)

    def test_a_turn_beside_a_leaf_that_differs(self):
        tree = ((("a", "b"), "c"), "d")
        self.assertIs(is_turn(tree, (("a", ("b", "c")), "d")), True)
        self.assertIs(is_turn(tree, (("a", ("b", "c")), "a")), False)
        self.assertIs(is_turn(("d", (("a", "b"), "c")), ("a", ("a", ("b", "c")))), False)

    def test_a_leaf_that_differs_within_the_turn(self):
        for other in [("x", ("b", "c")), ("a", ("x", "c")), ("a", ("b", "x"))]:
            self.assertIs(is_turn((("a", "b"), "c"), other), False)
            self.assertIs(is_turn(other, (("a", "b"), "c")), False)

    def test_trees_of_different_rows(self):
        self.assertIs(is_turn("a", "b"), False)
        self.assertIs(is_turn("a", ("a", "a")), False)
        self.assertIs(is_turn((("a", "b"), "c"), ("a", "b")), False)
        self.assertIs(is_turn((("a", "a"), "a"), (("a", "a"), ("a", "a"))), False)

    def test_all_pairs_of_small_trees(self):
        trees = small_trees("ab", 4) + bracketings(("a",) * 5) + bracketings(tuple("abaab"))
        for one in trees:
            for two in trees:
                self.assertIs(is_turn(one, two), differ_by_one_turn(one, two), (one, two))

    def test_deep_trees(self):
        for side in SIDES:
            for levels in (900, 5000):
                low = with_bottom(levels, (("a", "b"), "c"), side)
                high = with_bottom(levels, ("a", ("b", "c")), side)
                other = with_bottom(levels, ("a", ("b", "d")), side)
                self.assertIs(is_turn(low, high), True)
                self.assertIs(is_turn(high, low), True)
                self.assertIs(is_turn(low, low), False)
                self.assertIs(is_turn(low, with_bottom(levels, (("a", "b"), "c"), side)), False)
                self.assertIs(is_turn(low, other), False)
                self.assertIs(is_turn((low, "a"), (high, "b")), False)
                self.assertIs(is_turn(((low, "a"), "b"), (low, ("a", "b"))), True)
                self.assertIs(is_turn(((low, "a"), "b"), (high, ("a", "b"))), False)


class Texts(unittest.TestCase):
    def test_how_trees_are_written(self):
        self.assertEqual(show_tree("abc"), "abc")
        self.assertEqual(show_tree(("a", "b")), "(a b)")
        self.assertEqual(show_tree(tree=(("a", "bc"), "d")), "((a bc) d)")
        self.assertEqual(show_tree(("a", ("bc", "d"))), "(a (bc d))")

    def test_how_they_are_read(self):
        self.assertEqual(read_tree("abc"), "abc")
        self.assertEqual(read_tree(text="((a bc) (d e))"), (("a", "bc"), ("d", "e")))
        for tree in small_trees(["a", "bc"], 4):
            self.assertEqual(read_tree(show_tree(tree)), tree)
        for name in NAMES:
            self.assertEqual(read_tree(name), name)
            self.assertEqual(read_tree(f"({name} {name})"), (name, name))

    def test_deep_trees(self):
        for chain in CHAINS:
            for levels in (900, 5000):
                text = show_tree(chain(levels))
                self.assertEqual(text.count("("), levels)
                tree = read_tree(text)
                self.assertIs(is_tree(tree), True)
                self.assertEqual(show_tree(tree), text)

    def refuse(self, value):
        with self.assertRaises(NoText, msg=value if isinstance(value, str) else "no string") as caught:
            read_tree(value)
        self.assertEqual(caught.exception.position, 0)

    def test_no_string(self):
        for value in (None, True, 0, 7, [], ["a"], (), ("a", "b"), (("a", "b"), "c"), ["(a b)"]):
            self.refuse(value)
        self.refuse(with_bottom(2000, "a", "left"))

    def test_spaces_too_many_or_missing(self):
        for text in (
            "", " ", " a", "a ", "a\n", "\na", "a  b", " (a b)", "(a b) ", "( a b)", "(a b )", "(a  b)", "(a\nb)",
            "(ab)", "((a b)c)", "(a(b c))", "((a b)(c d))", "((a b)  (c d))", "(a b)\n",
        ):
            self.refuse(text)

    def test_parentheses_that_do_not_close(self):
        for text in (
            "(", ")", "()", "( )", "(a", "a)", "(a b", "a b)", "((a b)", "(a b))", "((a b) c", "(a (b c)", ")a b(",
            "(a b)(", "(a b) (", "(a)", "((a b))", "(a b c)", "(a b) c", "a b", "(a b) (c d)", "(() a)", "(a ())",
            "(a ( b)", "(()", "((", "(( a", "))", "(a (b)) c)", "((a)", "(a()", "((()", "((a) b)", "a b c)", "(a ()b)",
        ):
            self.refuse(text)

    def test_words_that_are_no_names(self):
        for word in NO_NAMES:
            if isinstance(word, str):
                self.refuse(word)
                self.refuse(f"({word} a)")
                self.refuse(f"(a (b {word}))")

    def test_other_signs(self):
        for text in ("[a b]", "(a, b)", "('a', 'b')", "(a|b)", "a+", "(a+b)", "{a b}", "(A b)"):
            self.refuse(text)

    def test_one_sign_changed_is_read_only_if_it_is_a_text(self):
        texts = {show_tree(tree) for tree in small_trees("ab", 4)}
        for text in sorted(texts):
            for at in range(len(text) + 1):
                for changed in [text[:at] + text[at + 1:]] + [text[:at] + sign + text[at:] for sign in "( )"]:
                    try:
                        self.assertEqual(show_tree(read_tree(changed)), changed)
                    except NoText as error:
                        self.assertEqual(error.position, 0)
                        self.assertNotIn(changed, texts)


if __name__ == "__main__":
    unittest.main()
