"""Promises [13] and [14], with [1] to [4] and the order of least sets of [10]."""

import time
import unittest
from itertools import combinations

from nestprops.rules import All, Always, AtLeast, Needs, Never, Rule, Some
from tests.helpers import EqualToAll, built, least_by_meaning, meaning, of_sets, shapes, subsets

NAMES = ("b", "a", "ab", "d", "c")
EIGHT = "abcdefgh"
A, B, C, D = Needs("a"), Needs("b"), Needs("c"), Needs("d")
SOME_RULES = [built(shape) for shape in shapes(NAMES, 60, 1)]
SOME_RULES += [Always(), Never(), A, A & B, A | B, AtLeast(2, A, B, C, D)]


class TestMeaning(unittest.TestCase):
    def test_document_example(self):
        rule = AtLeast(2, Needs("a"), Needs("b"), Needs("c")) | Needs("d")
        self.assertEqual(rule.least, (("d",), ("a", "b"), ("a", "c"), ("b", "c")))
        self.assertEqual(rule.turned.least, (("a", "b", "d"), ("a", "c", "d"), ("b", "c", "d")))

    def test_each_class(self):
        self.assertEqual(Needs("roof").least, (("roof",),))
        self.assertEqual(All(A, B, C).least, (("a", "b", "c"),))
        self.assertEqual(Some(C, A, B).least, (("a",), ("b",), ("c",)))
        self.assertEqual(AtLeast(2, C, A, B).least, (("a", "b"), ("a", "c"), ("b", "c")))
        self.assertEqual(Always().least, ((),))
        self.assertEqual(Never().least, ())

    def test_empty_calls(self):
        self.assertEqual(All().least, ((),))
        self.assertEqual(Some().least, ())
        self.assertEqual(AtLeast(0).least, ((),))
        self.assertEqual(AtLeast(1).least, ())
        self.assertEqual(AtLeast(8).least, ())

    def test_counts_at_the_edges(self):
        self.assertEqual(AtLeast(0, A, Never()), Always())
        self.assertEqual(AtLeast(1, A, B), Some(A, B))
        self.assertEqual(AtLeast(2, A, B), All(A, B))
        self.assertEqual(AtLeast(3, A, B), Never())
        self.assertEqual(AtLeast(9, A, B), Never())
        eight = [Needs(name) for name in EIGHT]
        self.assertEqual(AtLeast(8, *eight), All(*eight))
        self.assertEqual(AtLeast(9, *eight), Never())
        self.assertEqual(len(AtLeast(4, *eight).least), 70)

    def test_the_same_rule_twice_counts_twice(self):
        self.assertEqual(AtLeast(2, A, A, B), A)
        self.assertEqual(AtLeast(3, A, A, B), A & B)

    def test_always_and_never_inside(self):
        self.assertEqual(All(A, Always()), A)
        self.assertEqual(All(A, Never()), Never())
        self.assertEqual(Some(A, Always()), Always())
        self.assertEqual(Some(A, Never()), A)
        self.assertEqual(AtLeast(2, A, B, Always()), Some(A, B))
        self.assertEqual(AtLeast(2, A, B, Never()), All(A, B))

    def test_random_rules_have_the_least_sets_of_their_meaning(self):
        for shape in shapes(NAMES, 300, 2):
            expected = least_by_meaning(NAMES, lambda parts: meaning(shape, parts))
            self.assertEqual(built(shape).least, expected, shape)

    def test_calling_a_rule(self):
        for shape in shapes(NAMES, 100, 3):
            rule = built(shape)
            for parts in subsets(NAMES):
                self.assertIs(rule(parts), meaning(shape, parts), (shape, parts))
                self.assertIs(rule(list(reversed(parts))), meaning(shape, parts))

    def test_calling_with_repeated_and_foreign_names(self):
        rule = A & B
        self.assertIs(rule(["b", "a", "b", "zz"]), True)
        self.assertIs(rule(("a", "a")), False)
        self.assertIs(rule(parts=["a", "b"]), True)
        self.assertIs(Always()([]), True)
        self.assertIs(Never()(list(EIGHT)), False)

    def test_a_name_within_another_one_is_another_name(self):
        self.assertIs(Needs("a")(["ab"]), False)
        self.assertIs(Needs("ab")(["a", "b"]), False)


class TestAttributes(unittest.TestCase):
    def test_order_of_least_sets(self):
        rule = of_sets("ca", "dcb", "ab", "e")
        self.assertEqual(rule.least, (("e",), ("a", "b"), ("a", "c"), ("b", "c", "d")))
        rule = Rule.of_sets([["b"], ["aa"], ["a"], ["ab"]])
        self.assertEqual(rule.least, (("a",), ("aa",), ("ab",), ("b",)))
        rule = Rule.of_sets([["b", "a"], ["c", "ab"], ["d", "aa"], ["zz"]])
        self.assertEqual(rule.least, (("zz",), ("a", "b"), ("aa", "d"), ("ab", "c")))

    def test_names_are_those_of_the_least_sets(self):
        self.assertEqual(Some(Needs("c"), All(Needs("b"), Needs("a"))).names, ("a", "b", "c"))
        self.assertEqual(Some(A, All(A, B)).names, ("a",))
        self.assertEqual(All(A, Never()).names, ())
        self.assertEqual(Some(A, Always()).names, ())
        self.assertEqual(Always().names, ())
        self.assertEqual(Never().names, ())

    def test_kinds_of_values(self):
        for rule in SOME_RULES:
            self.assertIs(type(rule.least), tuple)
            self.assertTrue(all(type(one) is tuple for one in rule.least))
            self.assertIs(type(rule.names), tuple)
            self.assertTrue(all(type(name) is str for name in rule.names))

    def test_all_classes_are_rules(self):
        for rule in (A, All(), Some(), AtLeast(0), Always(), Never()):
            self.assertIsInstance(rule, Rule)
        for kind in (Needs, All, Some, AtLeast, Always, Never):
            self.assertIsNot(kind, Rule)


class TestOperators(unittest.TestCase):
    def test_and_and_or(self):
        for first in SOME_RULES[::3]:
            for second in SOME_RULES[::2]:
                both, either = first & second, first | second
                self.assertIs(type(both), Rule)
                self.assertIs(type(either), Rule)
                for parts in subsets(NAMES):
                    self.assertIs(both(parts), first(parts) and second(parts))
                    self.assertIs(either(parts), first(parts) or second(parts))
                self.assertEqual(both, All(first, second))
                self.assertEqual(either, Some(first, second))
                self.assertEqual(both.least, All(first, second).least)
                self.assertEqual(either.least, Some(first, second).least)

    def test_equality(self):
        self.assertEqual(Needs("a") & Needs("b"), All(Needs("a"), Needs("b")))
        self.assertEqual(A, Some(A, All(A, B)))
        self.assertTrue(A == of_sets("a"))
        self.assertTrue(of_sets("a") == A)
        self.assertFalse(A == B)
        self.assertTrue(A != B)
        self.assertFalse(A != Some(A))
        self.assertFalse(Always() == Never())

    def test_equality_is_that_of_meaning(self):
        for first in SOME_RULES:
            for second in SOME_RULES:
                alike = all(first(parts) == second(parts) for parts in subsets(NAMES))
                self.assertIs(first == second, alike)
                self.assertIs(first != second, not alike)

    def test_not_equal_to_other_kinds(self):
        for other in (None, True, 1, "a", "Rule(a)", ("a",), (("a",),), [("a",)], object(), EqualToAll()):
            self.assertIs(A == other, False)
            self.assertIs(A != other, True)
        self.assertIs(Never() == (), False)
        self.assertIs(Never() == False, False)  # noqa: E712
        self.assertIs(Always() == ((),), False)

    def test_truth(self):
        for rule in SOME_RULES:
            self.assertIs(bool(rule), rule != Never())
        self.assertIs(bool(Never()), False)
        self.assertIs(bool(Some()), False)
        self.assertIs(bool(A & Never()), False)
        self.assertIs(bool(Always()), True)
        self.assertIs(bool(A), True)

    def test_repr(self):
        self.assertEqual(repr(Never()), "Rule(never)")
        self.assertEqual(repr(Always()), "Rule(always)")
        self.assertEqual(repr(Needs("roof")), "Rule(roof)")
        self.assertEqual(repr(AtLeast(2, A, B)), "Rule(all ( a , b ))")
        self.assertEqual(repr((B & C) | A), "Rule(any ( a , all ( b , c ) ))")


class TestGivenLackingTurned(unittest.TestCase):
    def test_given_and_lacking(self):
        rule = of_sets("ab", "cd", "ac")
        self.assertEqual(rule.given("a").least, (("b",), ("c",)))
        self.assertEqual(rule.lacking("a").least, (("c", "d"),))
        self.assertEqual(rule.given(name="b").least, (("a",), ("c", "d")))
        self.assertEqual(rule.lacking(name="b").least, (("a", "c"), ("c", "d")))

    def test_given_and_lacking_at_the_edges(self):
        self.assertEqual(A.given("a"), Always())
        self.assertEqual(A.lacking("a"), Never())
        for rule in (Always(), Never(), A):
            self.assertEqual(rule.given("z"), rule)
            self.assertEqual(rule.lacking("z"), rule)

    def test_given_and_lacking_by_meaning(self):
        for rule in SOME_RULES:
            for name in NAMES + ("z",):
                given, lacking = rule.given(name), rule.lacking(name)
                self.assertIs(type(given), Rule)
                self.assertIs(type(lacking), Rule)
                self.assertEqual(given.least, least_by_meaning(NAMES, lambda parts: rule([*parts, name])))
                self.assertEqual(lacking.least, least_by_meaning(
                    NAMES, lambda parts: rule([part for part in parts if part != name])))

    def test_turned(self):
        self.assertEqual(Always().turned, Never())
        self.assertEqual(Never().turned, Always())
        self.assertEqual(A.turned, A)
        self.assertEqual(All(A, B).turned, Some(A, B))
        self.assertEqual(Some(A, B).turned, All(A, B))
        self.assertEqual(AtLeast(2, A, B, C).turned, AtLeast(2, A, B, C))

    def test_turned_by_meaning(self):
        for rule in SOME_RULES:
            turned = rule.turned
            self.assertIs(type(turned), Rule)
            self.assertEqual(turned.least, least_by_meaning(
                NAMES, lambda parts: all(set(parts) & set(one) for one in rule.least)))
            self.assertEqual(turned.turned, rule)
            self.assertEqual(turned.turned.least, rule.least)


class TestOfSets(unittest.TestCase):
    def test_ordinary_sets(self):
        rule = Rule.of_sets([["b", "a"], ("c",)])
        self.assertIs(type(rule), Rule)
        self.assertEqual(rule.least, (("c",), ("a", "b")))
        self.assertEqual(rule, (A & B) | C)
        self.assertEqual(Rule.of_sets(sets=(("a",),)), A)

    def test_no_set_and_the_empty_set(self):
        self.assertEqual(Rule.of_sets([]).least, ())
        self.assertEqual(Rule.of_sets(()), Never())
        self.assertEqual(Rule.of_sets([[]]).least, ((),))
        self.assertEqual(Rule.of_sets([["a"], ()]), Always())

    def test_sets_within_each_other_and_repeated_ones(self):
        self.assertEqual(of_sets("abc", "ab", "ba", "ab", "dab").least, (("a", "b"),))
        self.assertEqual(of_sets("ab", "abc", "c").least, (("c",), ("a", "b")))
        self.assertEqual(of_sets("ccc", "bab").least, (("c",), ("a", "b")))

    def test_forty_sets(self):
        sets = list(combinations(EIGHT, 3))[:40]
        self.assertEqual(Rule.of_sets(sets).least, tuple(sets))
        self.assertEqual(Rule.of_sets(list(reversed(sets))).least, tuple(sets))

    def test_by_meaning(self):
        for shape in shapes(NAMES, 100, 4):
            rule = built(shape)
            larger = [[*one, *NAMES[:at]] for at, one in enumerate(rule.least)]
            self.assertEqual(Rule.of_sets([*rule.least, *larger]), rule)


class TestNothingChanges(unittest.TestCase):
    def test_arguments_are_not_changed(self):
        sets = [["b", "a", "a"], ["c"], ["c", "b"]]
        rule = Rule.of_sets(sets)
        self.assertEqual(sets, [["b", "a", "a"], ["c"], ["c", "b"]])
        parts = ["b", "a", "b"]
        rule(parts)
        self.assertEqual(parts, ["b", "a", "b"])

    def test_later_changes_to_an_argument_change_nothing(self):
        sets = [["b", "a"], ["c"]]
        rule = Rule.of_sets(sets)
        sets[0].append("d")
        sets[1].clear()
        sets.append([])
        self.assertEqual(rule.least, (("c",), ("a", "b")))
        self.assertEqual(rule.names, ("a", "b", "c"))
        self.assertIs(rule(["c"]), True)
        self.assertIs(rule([]), False)

    def test_rules_do_not_change(self):
        for rule in SOME_RULES:
            least, names = rule.least, rule.names
            results = (rule & A, rule | B, rule.given("a"), rule.lacking("a"), rule.turned, All(rule, C), repr(rule))
            self.assertEqual((rule.least, rule.names), (least, names))
            again = (rule & A, rule | B, rule.given("a"), rule.lacking("a"), rule.turned, All(rule, C), repr(rule))
            self.assertEqual(results, again)

    def test_an_operator_returns_another_rule(self):
        first = Some(A, B)
        second = first
        second = second & C
        self.assertEqual(first, Some(A, B))
        second |= D
        self.assertEqual(second, ((A | B) & C) | D)


class TestLargeRules(unittest.TestCase):
    def test_rules_of_eight_names_take_no_long_time(self):
        begun = time.perf_counter()
        half = AtLeast(4, *[Needs(name) for name in EIGHT])
        self.assertEqual(AtLeast(4, *[half] * 8), half)
        self.assertEqual(All(*[half] * 8), half)
        self.assertEqual(Some(*[half] * 8), half)
        self.assertEqual(half & half, half)
        self.assertEqual(half.turned, AtLeast(5, *[Needs(name) for name in EIGHT]))
        self.assertLess(time.perf_counter() - begun, 5)


if __name__ == "__main__":
    unittest.main()
