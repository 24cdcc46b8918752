"""Promise [17] and Plan.read of [18], with [3] and [5]."""

import time
import unittest

from nestprops.errors import NoPart, NoPlan, NoText
from nestprops.plans import Plan
from nestprops.rules import All, Always, AtLeast, Needs, Never, Rule, Some
from tests.helpers import EqualToAll

ARCH_TEXT = "x : all ( y , z )\ny : all ( x , z )\nz : all ( x , y )"
HUT_TEXT = "base : always\nleft : all ( base , right )\nright : all ( base , left )\nroof : all ( left , right )"
EIGHT = "hgfedcba"


def always(names):
    return [(name, Always()) for name in names]


class TestPlan(unittest.TestCase):
    def no_plan(self, rows):
        with self.assertRaises(NoPlan) as caught:
            Plan(rows)
        return caught.exception.word, caught.exception.at

    def test_names_and_rules(self):
        plan = Plan([("roof", All(Needs("wall"), Needs("base"))), ("base", Always()), ("wall", Needs("base"))])
        self.assertEqual(plan.names, ("roof", "base", "wall"))
        self.assertIs(type(plan.names), tuple)
        self.assertEqual(plan.rule("roof").least, (("base", "wall"),))
        self.assertEqual(plan.rule("base"), Always())
        self.assertEqual(plan.rule(name="wall"), Needs("base"))
        self.assertIsInstance(plan.rule("wall"), Rule)

    def test_rows_by_name_and_as_a_tuple(self):
        self.assertEqual(Plan(rows=(("a", Needs("b")), ("b", Never()))), Plan([("a", Needs("b")), ("b", Never())]))

    def test_no_part(self):
        plan = Plan(always("ab"))
        for name in ("c", "", "A", "aa", "ab", "none", "a b", " a", "all"):
            with self.assertRaises(NoPart) as caught:
                plan.rule(name)
            self.assertEqual(caught.exception.name, name)

    def test_len_and_repr(self):
        for many in range(1, 9):
            plan = Plan(always(EIGHT[:many]))
            self.assertEqual(len(plan), many)
            self.assertEqual(repr(plan), f"Plan({many} parts)")
            self.assertEqual(plan.names, tuple(EIGHT[:many]))

    def test_contains(self):
        plan = Plan([("ab", Always()), ("roof", Needs("ab"))])
        for name in ("ab", "roof"):
            self.assertIs(name in plan, True)
        for name in ("a", "b", "", "rooff", "ROOF", "none", "ab roof", "ab "):
            self.assertIs(name in plan, False)

    def test_equality(self):
        plan = Plan([("a", Needs("b")), ("b", Always())])
        self.assertTrue(plan == Plan((("a", Some(Needs("b"), All(Needs("b")))), ("b", All()))))
        self.assertFalse(plan != Plan([("a", Needs("b")), ("b", Always())]))
        self.assertFalse(plan == Plan([("b", Always()), ("a", Needs("b"))]))
        self.assertFalse(plan == Plan([("a", Needs("b")), ("b", Never())]))
        self.assertFalse(plan == Plan([("a", Needs("c")), ("c", Always())]))
        self.assertFalse(Plan(always("ab")) == Plan(always("ba")))
        self.assertFalse(Plan(always("a")) == Plan(always("b")))
        self.assertFalse(Plan(always("a")) == Plan(always("ab")))
        self.assertTrue(Plan(always("a")) != Plan(always("ab")))

    def test_not_equal_to_other_kinds(self):
        plan = Plan(always("a"))
        rows = [("a", Always())]
        for other in (None, 1, True, "Plan(1 parts)", ("a",), rows, {"a": Always()}, Always(), object(), EqualToAll()):
            self.assertIs(plan == other, False)
            self.assertIs(plan != other, True)

    def test_count(self):
        self.assertEqual(self.no_plan([]), ("count", -1))
        self.assertEqual(self.no_plan(()), ("count", -1))
        self.assertEqual(self.no_plan(always("abcdefghi")), ("count", -1))
        self.assertEqual(self.no_plan(always("abcdefghijkl")), ("count", -1))
        self.assertEqual(len(Plan(always("abcdefgh"))), 8)
        self.assertEqual(len(Plan(always("a"))), 1)

    def test_names_that_are_none(self):
        for name in ("", "A", "aB", "a1", "1", "abcdefg", "a b", " a", "a ", "a\n", "a-b", "_", "all", "any", "of",
                     "always", "never", "none", "\u00e9", "\u00df"):
            self.assertEqual(self.no_plan([("x", Always()), (name, Always())]), ("name", 1), name)
            self.assertEqual(self.no_plan([(name, Always())]), ("name", 0), name)

    def test_names_that_are_some(self):
        names = ("a", "abcdef", "zzzzzz", "als", "ofs", "nonen", "if", "cls")
        self.assertEqual(Plan(always(names)).names, names)

    def test_repeated_names(self):
        self.assertEqual(self.no_plan(always("aba")), ("name", 2))
        self.assertEqual(self.no_plan(always("aab")), ("name", 1))
        self.assertEqual(self.no_plan(always("abcbA")), ("name", 3))

    def test_rules_over_other_names(self):
        self.assertEqual(self.no_plan([("a", Needs("a"))]), ("rule", 0))
        self.assertEqual(self.no_plan([("a", Needs("b"))]), ("rule", 0))
        self.assertEqual(self.no_plan([("a", Always()), ("b", All(Needs("a"), Needs("b")))]), ("rule", 1))
        self.assertEqual(self.no_plan([("a", Needs("b")), ("b", Some(Needs("a"), Needs("c")))]), ("rule", 1))
        self.assertEqual(self.no_plan([("a", Needs("c")), ("b", Needs("b"))]), ("rule", 0))

    def test_only_the_names_of_the_least_sets_count(self):
        own = Some(Needs("b"), All(Needs("a"), Needs("b")))
        foreign = All(Needs("z"), Never())
        plan = Plan([("a", own), ("b", foreign), ("c", Some(Needs("c"), Always()))])
        self.assertEqual([plan.rule(name) for name in "abc"], [Needs("b"), Never(), Always()])

    def test_a_rule_may_name_a_later_part(self):
        self.assertEqual(Plan([("a", Needs("b")), ("b", Needs("a"))]).rule("a"), Needs("b"))

    def test_order_of_violations(self):
        many = [("a", Needs("a"))] + always("aA") + always("bcdefgh")
        self.assertEqual(self.no_plan(many), ("count", -1))
        self.assertEqual(self.no_plan([("a", Needs("a")), ("b", Needs("z")), ("B", Always())]), ("name", 2))
        self.assertEqual(self.no_plan([("a", Needs("a")), ("b", Always()), ("a", Always())]), ("name", 2))
        self.assertEqual(self.no_plan([("b", Always()), ("b", Always()), ("A", Always())]), ("name", 1))
        self.assertEqual(self.no_plan([("A", Needs("z")), ("b", Needs("b"))]), ("name", 0))


class TestOf(unittest.TestCase):
    def test_names_in_the_order_of_the_call(self):
        plan = Plan.of(roof=Needs("base"), base=Always())
        self.assertEqual(plan.names, ("roof", "base"))
        self.assertEqual(plan, Plan([("roof", Needs("base")), ("base", Always())]))
        self.assertNotEqual(plan, Plan.of(base=Always(), roof=Needs("base")))
        self.assertIs(type(plan), Plan)

    def test_names_that_the_program_uses(self):
        plan = Plan.of(rows=Always(), rules=Needs("rows"), names=Never(), self=Always(), text=Always(), name=Always())
        self.assertEqual(plan.names, ("rows", "rules", "names", "self", "text", "name"))

    def test_the_same_errors(self):
        for rules, word, at in (
            ({}, "count", -1),
            ({name: Always() for name in "abcdefghi"}, "count", -1),
            ({"a": Always(), "A": Always()}, "name", 1),
            ({"all": Always()}, "name", 0),
            ({"a": Needs("a")}, "rule", 0),
            ({"a": Always(), "b": Needs("c")}, "rule", 1),
            ({"a": Needs("a"), "B": Always()}, "name", 1),
        ):
            with self.assertRaises(NoPlan) as caught:
                Plan.of(**rules)
            self.assertEqual((caught.exception.word, caught.exception.at), (word, at))


class TestRead(unittest.TestCase):
    def test_document_examples(self):
        arch, hut = Plan.read(ARCH_TEXT), Plan.read(HUT_TEXT)
        self.assertEqual(hut.rule("roof").least, (("left", "right"),))
        x, y, z = Needs("x"), Needs("y"), Needs("z")
        self.assertEqual(arch, Plan.of(x=y & z, y=x & z, z=x & y))
        self.assertEqual(hut.names, ("base", "left", "right", "roof"))
        self.assertEqual(hut.rule("base"), Always())
        self.assertEqual(hut.rule("left"), All(Needs("base"), Needs("right")))
        self.assertEqual(hut.rule("right"), All(Needs("base"), Needs("left")))

    def test_any_text_of_a_rule(self):
        plan = Plan.read("c : 2 of ( a , b , always )\nb : never\na : any ( b , all ( b , a ) , never )")
        self.assertEqual(plan, Plan.of(c=Some(Needs("a"), Needs("b")), b=Never(), a=Needs("b")))
        self.assertEqual(Plan.read(text="a : always"), Plan.of(a=Always()))
        self.assertIs(type(plan), Plan)

    def test_one_and_eight_rows(self):
        self.assertEqual(Plan.read("a : never").names, ("a",))
        text = "\n".join(f"{name} : 4 of ( {' , '.join(EIGHT.replace(name, ''))} )" for name in EIGHT)
        plan = Plan.read(text)
        self.assertEqual(plan.names, tuple(EIGHT))
        self.assertEqual(plan.rule("h"), AtLeast(4, *[Needs(name) for name in "abcdefg"]))

    def no_text(self, text):
        with self.assertRaises(NoText) as caught:
            Plan.read(text)
        return caught.exception.at

    def test_rows_of_another_form(self):
        for row in ("", " ", "a", "a :", ":", "a : ", ": always", " : always", "a always", "a: always", "a :always",
                    "a : always ", " a : always", "a  : always", "a :  always", "a : all ( b  , c )", "a : all ( b",
                    "a : all ( b ) )", "a : 9 of ( b )", "a : none", "a : b c", "a : : b", "A : always",
                    "abcdefg : always", "all : always", "none : always", "of : always", "a b : always",
                    "a : Always", "a ; always", "a : always ; b : always"):
            self.assertEqual(self.no_text(row), 0, row)
            self.assertEqual(self.no_text(f"b : always\nc : b\n{row}\nd : always"), 2, row)

    def test_newlines_at_the_ends_make_rows(self):
        self.assertEqual(self.no_text("a : always\n"), 1)
        self.assertEqual(self.no_text("\na : always"), 0)
        self.assertEqual(self.no_text("a : always\n\nb : always"), 1)
        self.assertEqual(self.no_text("\n"), 0)

    def test_repeated_names(self):
        self.assertEqual(self.no_text("a : always\na : always"), 1)
        self.assertEqual(self.no_text("a : always\nb : a\na : b\nb"), 2)
        self.assertEqual(self.no_text("a : always\nb : a\nc\na : b"), 2)

    def test_the_ninth_row(self):
        rows = [f"{name} : always" for name in "abcdefghij"]
        self.assertEqual(len(Plan.read("\n".join(rows[:8]))), 8)
        self.assertEqual(self.no_text("\n".join(rows[:9])), 8)
        self.assertEqual(self.no_text("\n".join(rows)), 8)
        self.assertEqual(self.no_text("\n".join(rows[:8] + [""])), 8)
        self.assertEqual(self.no_text("\n".join(rows[:7] + ["g : always", "i : always"])), 7)
        self.assertEqual(self.no_text("\n".join(rows[:3] + ["d"] + rows[4:])), 3)

    def test_rules_over_other_names(self):
        for text, at in (("a : a", 0), ("a : b", 0), ("a : always\nb : all ( a , b )", 1), ("a : b\nb : c\nc : d", 2)):
            with self.assertRaises(NoPlan) as caught:
                Plan.read(text)
            self.assertEqual((caught.exception.word, caught.exception.at), ("rule", at), text)

    def test_form_comes_before_rules(self):
        self.assertEqual(self.no_text("a : a\nb : z\nc :"), 2)
        self.assertEqual(self.no_text("a : a\nb : z\na : always"), 2)
        self.assertEqual(self.no_text("\n".join(f"{name} : {name}" for name in "abcdefghi")), 8)

    def test_a_wrong_text_with_many_least_sets_takes_no_long_time(self):
        letters = "abcdefghij"
        calls = [" , ".join(first + second for second in letters) for first in letters]
        row = "a : all ( " + " , ".join(f"any ( {call} )" for call in calls) + " )"
        begun = time.perf_counter()
        self.assertEqual(self.no_text(row + "\nb :"), 1)
        self.assertLess(time.perf_counter() - begun, 5)


class TestNothingChanges(unittest.TestCase):
    def test_arguments_are_not_changed(self):
        rows = [("a", Needs("b")), ("b", Always())]
        Plan(rows)
        self.assertEqual(rows, [("a", Needs("b")), ("b", Always())])
        rules = {"a": Needs("b"), "b": Always()}
        Plan.of(**rules)
        self.assertEqual(list(rules.items()), [("a", Needs("b")), ("b", Always())])

    def test_later_changes_to_an_argument_change_nothing(self):
        rows = [("a", Needs("b")), ("b", Always())]
        plan = Plan(rows)
        rows[0] = ("c", Never())
        rows.append(("d", Always()))
        self.assertEqual(plan.names, ("a", "b"))
        self.assertEqual(len(plan), 2)
        self.assertEqual(plan.rule("a"), Needs("b"))
        self.assertIs("d" in plan, False)
        self.assertEqual(plan, Plan.of(a=Needs("b"), b=Always()))

    def test_same_result_again(self):
        plan = Plan.read(HUT_TEXT)
        self.assertEqual(plan, Plan.read(HUT_TEXT))
        for name in plan.names:
            self.assertEqual(plan.rule(name), plan.rule(name))
        self.assertEqual(repr(plan), repr(plan))
        with self.assertRaises(NoPart):
            plan.rule("zz")
        self.assertEqual(plan, Plan.read(HUT_TEXT))


if __name__ == "__main__":
    unittest.main()
