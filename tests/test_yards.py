"""Promises [19] to [21], with [2], [3], [5], [6] and [10]."""

import time
import unittest
from itertools import islice

from nestprops.errors import NoPart, NoText, OtherPlan
from nestprops.plans import Plan
from nestprops.rules import All, Always, Needs, Never, Some
from nestprops.yards import Yard, all_yards
from tests import model
from tests.helpers import EqualToAll
from tests.model import ARCH, EIGHT, HUT

PLANS = [ARCH, HUT, *model.random_plans(40, "yards")]


def yard_of(plan, parts):
    return Yard(plan, sorted(parts))


class TestYard(unittest.TestCase):
    def test_document_example(self):
        yard = Yard(HUT, ["roof", "base", "left"])
        self.assertEqual((yard.parts, yard.stands, yard.rest.parts), (("base", "left", "roof"), False, ("base",)))
        self.assertEqual(yard.supported(["left"]), ("base", "left", "right"))

    def test_parts_are_a_tuple_in_plan_order_each_once(self):
        for parts in (["roof", "base"], ("base", "roof"), ["roof", "base", "roof", "roof"], ("base", "base", "roof")):
            yard = Yard(HUT, parts)
            self.assertEqual(yard.parts, ("base", "roof"))
            self.assertIs(type(yard.parts), tuple)
            self.assertEqual(len(yard), 2)
        self.assertEqual(Yard(EIGHT, "a b c d e f g h".split()).parts, tuple("hgfedcba"))

    def test_no_part_at_all(self):
        for yard in (Yard(HUT), Yard(HUT, []), Yard(HUT, ()), Yard(plan=HUT)):
            self.assertEqual((yard.parts, len(yard), yard.stands, yard.rest), ((), 0, True, Yard(HUT)))
            self.assertIs(bool(yard), False)
            self.assertEqual(yard.supported(), ("base",))

    def test_plan_and_arguments_by_name(self):
        yard = Yard(parts=["base"], plan=HUT)
        self.assertEqual((yard.plan, yard.parts), (HUT, ("base",)))
        self.assertEqual(yard.supported(props=["left"]), yard.supported(["left"]))
        self.assertIs(yard.stands_under(props=()), True)
        self.assertEqual(yard.rest_under(props=()), yard)

    def test_no_part(self):
        for parts, name in ((["c"], "c"), (["base", "c", "d"], "c"), (["base", "", "c"], ""), (["none"], "none"),
                            (("base", "base", "BASE"), "BASE"), (["base left"], "base left"), (["c", "base"], "c")):
            with self.assertRaises(NoPart) as caught:
                Yard(HUT, parts)
            self.assertEqual(caught.exception.name, name)

    def test_what_is_supported_stands_and_remains(self):
        for plan in PLANS:
            for parts in model.subsets(plan):
                yard = yard_of(plan, parts)
                self.assertEqual(yard.stands, model.stands(plan, parts))
                self.assertIs(type(yard.stands), bool)
                self.assertEqual(yard.rest, yard_of(plan, model.rest(plan, parts)))
                self.assertIs(type(yard.rest), Yard)
                self.assertEqual(yard.supported(), model.in_plan_order(plan, model.supported(plan, parts)))

    def test_props(self):
        for plan in PLANS[:20]:
            for parts in model.subsets(plan):
                yard = yard_of(plan, parts)
                for props in model.subsets(plan):
                    given = sorted(props) * 2
                    supported = model.in_plan_order(plan, model.supported(plan, parts, props))
                    self.assertEqual(yard.supported(given), supported)
                    self.assertEqual(yard.supported(tuple(given)), supported)
                    self.assertIs(yard.stands_under(given), model.stands(plan, parts, props))
                    self.assertEqual(yard.rest_under(given), yard_of(plan, model.rest(plan, parts, props)))

    def test_props_on_parts_that_are_not_there(self):
        yard = Yard(ARCH, ["x", "y"])
        self.assertEqual(yard.supported(["z"]), ("z",))
        self.assertEqual(Yard(ARCH).supported(["z", "x"]), ("x", "z"))
        self.assertIs(yard.stands_under(["z"]), False)
        self.assertEqual(yard.rest_under(["z"]), Yard(ARCH))
        self.assertEqual(yard.rest_under(("y", "z", "y")).parts, ("y",))
        self.assertIs(yard.stands_under(["y", "x"]), True)

    def test_props_that_are_no_parts(self):
        for yard in (Yard(HUT), Yard(HUT, ["roof"])):
            for method in (yard.supported, yard.stands_under, yard.rest_under):
                for props, name in ((["c"], "c"), (("base", "b", "c"), "b"), (["roof", "none"], "none"), ([""], "")):
                    with self.assertRaises(NoPart) as caught:
                        method(props)
                    self.assertEqual(caught.exception.name, name)

    def test_rest_does_not_depend_on_the_order(self):
        for plan in PLANS:
            for parts in model.subsets(plan):
                left = parts
                while not model.stands(plan, left):
                    left = left - {model.falling(plan, left)[-1]}
                self.assertEqual(yard_of(plan, parts).rest, yard_of(plan, left))

    def test_contains(self):
        yard = Yard(HUT, ["roof", "base"])
        for name, there in (("roof", True), ("base", True), ("left", False), ("", False), ("none", False),
                            ("base roof", False), ("bas", False), ("zz", False)):
            self.assertIs(name in yard, there, name)

    def test_bool_and_repr(self):
        self.assertIs(bool(Yard(HUT, ["roof"])), True)
        self.assertEqual(repr(Yard(HUT, ["roof", "base"])), "Yard(base roof)")
        self.assertEqual(repr(Yard(HUT, ["left"])), "Yard(left)")
        self.assertEqual(repr(Yard(HUT)), "Yard(none)")


class TestOperators(unittest.TestCase):
    def test_union_intersection_difference(self):
        for plan in PLANS[:12]:
            for one in model.subsets(plan):
                for other in model.subsets(plan):
                    yard, second = yard_of(plan, one), yard_of(plan, other)
                    self.assertEqual((yard | second).parts, model.in_plan_order(plan, one | other))
                    self.assertEqual((yard & second).parts, model.in_plan_order(plan, one & other))
                    self.assertEqual((yard - second).parts, model.in_plan_order(plan, one - other))
                    self.assertIs(type(yard | second), Yard)
                    self.assertIs(yard == second, one == other)
                    self.assertIs(yard != second, one != other)

    def test_equal_plans_will_do(self):
        same = Plan.of(x=All(Needs("z"), Needs("y")), y=All(Needs("x"), Needs("z")), z=Needs("x") & Needs("y"))
        yard, other = Yard(ARCH, ["x", "y"]), Yard(same, ["y", "z"])
        self.assertEqual(((yard | other).parts, (yard & other).parts, (yard - other).parts),
                         (("x", "y", "z"), ("y",), ("x",)))
        self.assertIs(Yard(same, ["z"]) == Yard(ARCH, ["z"]), True)

    def test_other_plans(self):
        order = Plan.of(y=ARCH.rule("y"), x=ARCH.rule("x"), z=ARCH.rule("z"))
        rules = Plan.of(x=ARCH.rule("x"), y=ARCH.rule("y"), z=Some(Needs("x"), Needs("y")))
        for plan in (order, rules, HUT, Plan.of(x=Always())):
            for yard, other in ((Yard(ARCH), Yard(plan)), (Yard(plan), Yard(ARCH, ["x"]))):
                for act in (lambda a, b: a | b, lambda a, b: a & b, lambda a, b: a - b):
                    with self.assertRaises(OtherPlan):
                        act(yard, other)
                self.assertIs(yard == other, False)
                self.assertIs(yard != other, True)

    def test_not_equal_to_other_kinds(self):
        yard = Yard(ARCH, ["x"])
        for other in (None, 1, True, "x", "Yard(x)", ("x",), ["x"], ARCH, Needs("x"), {"x": 1}, object(), EqualToAll()):
            self.assertIs(yard == other, False)
            self.assertIs(yard != other, True)


class TestRead(unittest.TestCase):
    def test_names_in_any_order(self):
        self.assertEqual(Yard.read(HUT, "roof base left"), Yard(HUT, ["base", "left", "roof"]))
        self.assertEqual(Yard.read(plan=HUT, text="left"), Yard(HUT, ["left"]))
        self.assertEqual(Yard.read(HUT, "none"), Yard(HUT))
        self.assertIs(type(Yard.read(HUT, "none")), Yard)

    def test_every_yard_can_be_read_again(self):
        for plan in (ARCH, HUT, EIGHT):
            for parts in model.subsets(plan):
                yard = yard_of(plan, parts)
                self.assertEqual(Yard.read(plan, repr(yard)[5:-1]), yard)
                self.assertEqual(Yard.read(plan, " ".join(reversed(yard.parts)) or "none"), yard)

    def test_words_that_cannot_stand_there(self):
        for text, at in (
            ("", 0), (" ", 0), ("  ", 0), ("base ", 1), (" base", 0), ("base  left", 1), ("base left ", 2),
            ("none none", 0), ("none base", 0), ("base none", 1), ("base left none", 2), ("none ", 0), (" none", 0),
            ("base base", 1), ("base left base roof roof", 2), ("c", 0), ("base c d", 1), ("BASE", 0), ("base,left", 0),
            ("base\nleft", 0), ("left roof base\n", 2), ("None", 0), ("all", 0), ("left right roof base left", 4),
        ):
            with self.assertRaises(NoText) as caught:
                Yard.read(HUT, text)
            self.assertEqual(caught.exception.at, at, repr(text))


class TestAllYards(unittest.TestCase):
    def test_order_and_standing(self):
        for plan in PLANS:
            every = [model.in_plan_order(plan, parts) for parts in model.subsets(plan)]
            standing = [model.in_plan_order(plan, parts) for parts in model.subsets(plan) if model.stands(plan, parts)]
            self.assertEqual([yard.parts for yard in all_yards(plan, standing=False)], every)
            self.assertEqual([yard.parts for yard in all_yards(plan, standing=True)], standing)
            self.assertEqual([yard.parts for yard in all_yards(plan=plan)], standing)

    def test_order_is_that_of_the_plan(self):
        plan = Plan.of(c=Always(), a=Always(), b=Always())
        self.assertEqual([yard.parts for yard in all_yards(plan)],
                         [(), ("c",), ("a",), ("b",), ("c", "a"), ("c", "b"), ("a", "b"), ("c", "a", "b")])

    def test_one_part_and_eight_parts(self):
        self.assertEqual([yard.parts for yard in all_yards(Plan.of(a=Never()))], [()])
        self.assertEqual([yard.parts for yard in all_yards(Plan.of(a=Never()), standing=False)], [(), ("a",)])
        every = list(all_yards(EIGHT, standing=False))
        self.assertEqual(len(every), 256)
        self.assertEqual([yard.parts for yard in every[:11]], [(), *[(name,) for name in "hgfedcba"], ("h", "g"), ("h", "f")])
        self.assertEqual([len(yard) for yard in every], sorted(len(yard) for yard in every))
        self.assertEqual(len(list(all_yards(EIGHT))), 1 + 56 + 28 + 8 + 1)

    def test_standing_is_passed_by_name(self):
        with self.assertRaises(TypeError):
            list(all_yards(ARCH, False))

    def test_unfinished_and_by_turns(self):
        first = iter(all_yards(HUT))
        begun = list(islice(first, 2))
        second = iter(all_yards(HUT, standing=False))
        turns = [(one, other) for one, other in zip(first, second)]
        self.assertEqual(begun + [one for one, _ in turns], list(all_yards(HUT)))
        self.assertEqual([other for _, other in turns], list(all_yards(HUT, standing=False))[:len(turns)])
        self.assertTrue(turns)


class TestNothingChanges(unittest.TestCase):
    def test_arguments_are_not_changed_and_later_changes_have_no_effect(self):
        parts, props = ["roof", "base", "roof"], ["left", "left"]
        yard = Yard(HUT, parts)
        results = (yard.supported(props), yard.stands_under(props), yard.rest_under(props))
        self.assertEqual((parts, props), (["roof", "base", "roof"], ["left", "left"]))
        parts[0] = "left"
        parts.append("right")
        self.assertEqual(yard.parts, ("base", "roof"))
        self.assertEqual(yard, Yard(HUT, ["base", "roof"]))
        self.assertEqual(results, (yard.supported(props), yard.stands_under(props), yard.rest_under(props)))

    def test_operators_and_properties_leave_the_yards_as_they_are(self):
        yard, other = Yard(HUT, ["roof", "base"]), Yard(HUT, ["base", "left"])
        for _ in range(2):
            self.assertEqual((yard | other, yard & other, yard - other, yard.rest, yard.stands),
                             (Yard(HUT, ["base", "left", "roof"]), Yard(HUT, ["base"]), Yard(HUT, ["roof"]),
                              Yard(HUT, ["base"]), False))
            with self.assertRaises(OtherPlan):
                yard | Yard(ARCH)
            with self.assertRaises(NoPart):
                yard.rest_under(["zz"])
            self.assertEqual((yard.parts, other.parts), (("base", "roof"), ("base", "left")))

    def test_eight_parts_take_no_long_time(self):
        begun = time.perf_counter()
        for yard in all_yards(EIGHT, standing=False):
            self.assertEqual(yard.stands, yard.rest == yard)
            self.assertEqual(yard.rest_under(yard.parts), yard)
        self.assertLess(time.perf_counter() - begun, 5)


if __name__ == "__main__":
    unittest.main()
