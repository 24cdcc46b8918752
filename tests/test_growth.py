"""Promises [29] to [31], with [2], [3], [8], [9] and the points of [11] that need no later module."""

import random
import time
import unittest
from itertools import islice

from nestprops.errors import NoPart, OtherPlan
from nestprops.growth import full_yards, grown, is_full, join_of, meet_of
from nestprops.plans import Plan
from nestprops.rules import Always, AtLeast, Needs, Never
from nestprops.yards import Yard, all_yards
from tests import model
from tests.model import ARCH, EIGHT, HUT

PLANS = [ARCH, HUT, *model.random_plans(60, "growth")]
SIX = model.ring("fedcba", 3)


def yard_of(plan, parts):
    return Yard(plan, sorted(parts))


def in_order(yards):
    """Return yards of one plan in the order of the document [10]."""
    return sorted(yards, key=lambda yard: (len(yard), [yard.plan.names.index(name) for name in yard.parts]))


class TestGrown(unittest.TestCase):
    def test_document_examples(self):
        arch, hut = Yard(ARCH), Yard(HUT)
        self.assertEqual((grown(arch).parts, grown(arch, depth=1).parts, grown(arch, depth=2).parts),
                         ((), (), ("x", "y", "z")))
        self.assertEqual(grown(hut, depth=1).parts, ("base", "left", "right", "roof"))

    def test_by_meaning_without_props(self):
        for plan in PLANS:
            growths = model.Growths(plan)
            for depth in range(len(plan) + 2):
                for parts in model.subsets(plan):
                    result = grown(yard_of(plan, parts), depth=depth)
                    self.assertEqual(result, yard_of(plan, growths.growth(parts, depth)), (plan, depth))
                    self.assertIs(type(result), Yard)

    def test_by_meaning_under_props(self):
        for plan in PLANS[:30]:
            growths = model.Growths(plan)
            for depth in range(3):
                for props in model.subsets(plan):
                    for parts in model.subsets(plan):
                        expected = yard_of(plan, growths.growth(parts, depth, props))
                        self.assertEqual(grown(yard_of(plan, parts), depth=depth, props=sorted(props)), expected)

    def test_by_meaning_with_five_parts(self):
        for plan in model.random_plans(6, "five", 5, 5):
            growths = model.Growths(plan)
            for depth in range(3):
                for parts in model.subsets(plan):
                    self.assertEqual(grown(yard_of(plan, parts), depth=depth), yard_of(plan, growths.growth(parts, depth)))

    def test_the_yard_need_not_stand(self):
        self.assertEqual(grown(Yard(ARCH, ["x"])).parts, ("x",))
        self.assertEqual(grown(Yard(ARCH, ["x", "y"])).parts, ("x", "y", "z"))
        self.assertEqual(grown(Yard(HUT, ["left"])).parts, HUT.names)
        self.assertEqual(grown(Yard(HUT, ["roof"])).parts, ("base", "roof"))
        self.assertEqual(grown(Yard(ARCH, ["x"]), depth=1).parts, ("x", "y", "z"))

    def test_props(self):
        self.assertEqual(grown(Yard(ARCH), props=["x"]).parts, ("x",))
        self.assertEqual(grown(Yard(ARCH), props=("x", "x", "y")).parts, ("x", "y", "z"))
        self.assertEqual(grown(Yard(ARCH), depth=1, props=["z", "z"]).parts, ("x", "y", "z"))
        self.assertEqual(grown(Yard(HUT), props=["roof"]).parts, ("base", "roof"))
        self.assertEqual(grown(props=["left"], depth=0, yard=Yard(HUT)).parts, HUT.names)
        self.assertEqual(grown(Yard(EIGHT), depth=2, props=EIGHT.names), Yard(EIGHT, EIGHT.names))
        self.assertEqual(grown(Yard(EIGHT), depth=0, props=list("abcd")).parts, EIGHT.names)
        self.assertEqual(grown(Yard(EIGHT), depth=0, props=list("abc")).parts, tuple("cba"))

    def test_order_of_the_props_does_not_matter(self):
        for plan in PLANS[:20]:
            for depth in range(3):
                for parts in model.subsets(plan):
                    names = list(plan.names)
                    self.assertEqual(grown(yard_of(plan, parts), depth=depth, props=names[1:]),
                                     grown(yard_of(plan, parts), depth=depth, props=names[:0:-1]))

    def test_depths_above_the_number_of_parts(self):
        for plan in PLANS + [SIX]:
            for parts in model.subsets(plan):
                last = grown(yard_of(plan, parts), depth=len(plan))
                for depth in range(len(plan), 9):
                    self.assertEqual(grown(yard_of(plan, parts), depth=depth), last)

    def test_number_of_props_that_a_ring_needs(self):
        for count in range(6):
            plan = model.ring("fedcba", count)
            for depth in range(9):
                size = 6 if depth >= count else 0
                self.assertEqual(len(grown(Yard(plan), depth=depth)), size, (count, depth))

    def test_one_part_and_no_part(self):
        for rule, parts in ((Always(), ("a",)), (Never(), ())):
            plan = Plan([("a", rule)])
            for depth in range(9):
                self.assertEqual(grown(Yard(plan), depth=depth).parts, parts)
                self.assertEqual(grown(Yard(plan, ["a"]), depth=depth).parts, ("a",))
                self.assertEqual(grown(Yard(plan), depth=depth, props=["a"]).parts, ("a",))

    def test_no_part(self):
        for yard in (Yard(HUT), Yard(HUT, ["roof"])):
            for props, name in ((["c"], "c"), (("base", "base", "d", "c"), "d"), (["none"], "none"), ([""], "")):
                for depth in (0, 2):
                    with self.assertRaises(NoPart) as caught:
                        grown(yard, depth=depth, props=props)
                    self.assertEqual(caught.exception.name, name)

    def test_depth_and_props_are_passed_by_name(self):
        yard = Yard(HUT)
        for act in (lambda: grown(yard, 1), lambda: is_full(yard, 1), lambda: list(full_yards(HUT, 1)),
                    lambda: join_of(yard, yard, 1)):
            with self.assertRaises(TypeError):
                act()


class TestFull(unittest.TestCase):
    def test_by_meaning(self):
        for plan in PLANS:
            growths = model.Growths(plan)
            for depth in range(len(plan) + 2):
                full = [parts for parts in model.subsets(plan)
                        if model.stands(plan, parts) and growths.growth(parts, depth) == parts]
                self.assertEqual(list(full_yards(plan, depth=depth)), [yard_of(plan, parts) for parts in full])
                for parts in model.subsets(plan):
                    self.assertIs(is_full(yard_of(plan, parts), depth=depth), parts in full)

    def test_defaults_and_names(self):
        self.assertEqual([yard.parts for yard in full_yards(HUT)], [("base",), HUT.names])
        self.assertEqual([yard.parts for yard in full_yards(depth=1, plan=HUT)], [HUT.names])
        self.assertEqual([yard.parts for yard in full_yards(ARCH, depth=1)], [(), ARCH.names])
        self.assertIs(is_full(Yard(HUT)), False)
        self.assertIs(is_full(Yard(HUT, ["base"])), True)
        self.assertIs(is_full(yard=Yard(HUT, ["base"]), depth=1), False)

    def test_a_yard_that_does_not_stand_is_not_full(self):
        plan = Plan.of(a=Never(), b=Always())
        self.assertEqual(grown(Yard(plan, ["a", "b"])), Yard(plan, ["a", "b"]))
        self.assertIs(is_full(Yard(plan, ["a", "b"])), False)
        self.assertEqual([yard.parts for yard in full_yards(plan)], [("b",)])

    def test_full_at_depth_0_is_equal_to_what_is_supported(self):
        for plan in PLANS:
            self.assertEqual(list(full_yards(plan)),
                             [yard_of(plan, parts) for parts in model.subsets(plan) if model.supported(plan, parts) == parts])

    def test_unfinished_and_by_turns(self):
        first = iter(full_yards(HUT))
        begun = list(islice(first, 1))
        second = iter(full_yards(ARCH, depth=1))
        turns = [(next(second), next(first))]
        self.assertEqual(begun + [one for _, one in turns], list(full_yards(HUT)))
        self.assertEqual([one for one, _ in turns] + list(second), list(full_yards(ARCH, depth=1)))
        self.assertEqual(list(first), [])


class TestJoinAndMeet(unittest.TestCase):
    def test_by_meaning(self):
        for plan in PLANS[:25]:
            growths = model.Growths(plan)
            for one in model.subsets(plan):
                for other in model.subsets(plan):
                    yard, second = yard_of(plan, one), yard_of(plan, other)
                    self.assertEqual(meet_of(yard, second), yard_of(plan, model.rest(plan, one & other)))
                    for depth in (0, 1, 2):
                        self.assertEqual(join_of(yard, second, depth=depth),
                                         yard_of(plan, growths.growth(one | other, depth)))

    def test_defaults_and_names(self):
        yard, other = Yard(ARCH, ["x"]), Yard(ARCH, ["y"])
        self.assertEqual(join_of(yard, other).parts, ("x", "y", "z"))
        self.assertEqual(join_of(depth=2, other=Yard(ARCH), yard=Yard(ARCH)).parts, ("x", "y", "z"))
        self.assertEqual(join_of(Yard(ARCH), Yard(ARCH)).parts, ())
        self.assertEqual(join_of(Yard(HUT), Yard(HUT, ["base"])).parts, ("base",))
        self.assertEqual(meet_of(other=Yard(HUT, ["base", "roof"]), yard=Yard(HUT, HUT.names)).parts, ("base",))

    def test_other_plans(self):
        order = Plan.of(y=ARCH.rule("y"), x=ARCH.rule("x"), z=ARCH.rule("z"))
        for plan in (HUT, order, Plan.of(x=Always(), y=Always(), z=Always())):
            for act in (join_of, meet_of, lambda one, other: join_of(one, other, depth=2)):
                with self.assertRaises(OtherPlan):
                    act(Yard(ARCH), Yard(plan))
                with self.assertRaises(OtherPlan):
                    act(Yard(plan), Yard(ARCH, ["x"]))
        self.assertEqual(meet_of(Yard(ARCH), Yard(Plan.read("\n".join(
            f"{name} : all ( {' , '.join(sorted({'x', 'y', 'z'} - {name}))} )" for name in "xyz")))), Yard(ARCH))


class TestEveryPlan(unittest.TestCase):
    """The points of [11], with lots found by trying all scripts."""

    def test_joined_exactly_if_the_growths_are_equal(self):
        for plan in [ARCH, HUT, *model.random_plans(25, "joined")]:
            for depth in range(len(plan) + 1):
                for yard in all_yards(plan):
                    lot = model.reached(plan, frozenset(yard.parts), depth)
                    growth = grown(yard, depth=depth)
                    self.assertEqual({frozenset(other.parts) for other in all_yards(plan)
                                      if grown(other, depth=depth) == growth}, lot)
                    # The growth is the greatest yard of the lot, and contains all of them.
                    self.assertIn(frozenset(growth.parts), lot)
                    self.assertTrue(all(parts <= frozenset(growth.parts) for parts in lot))
                    self.assertIs(is_full(growth, depth=depth), True)

    def test_growth_stands_under_the_same_props(self):
        for plan in PLANS[:20]:
            for props in model.subsets(plan):
                for yard in all_yards(plan, standing=False):
                    if yard.stands_under(sorted(props)):
                        for depth in range(3):
                            growth = grown(yard, depth=depth, props=sorted(props))
                            self.assertIs(growth.stands_under(sorted(props)), True)

    def test_depth_between_yards(self):
        for plan in PLANS[:20]:
            growths = [[grown(yard, depth=depth) for depth in range(len(plan) + 1)] for yard in all_yards(plan)]
            between = [[[one == other for one, other in zip(first, second)] for second in growths] for first in growths]
            for row in between:
                for equal in row:
                    # Lots only merge with greater depth, and in the end there is one.
                    self.assertEqual(equal, sorted(equal))
                    self.assertTrue(equal[-1])
            depths = [[equal.index(True) for equal in row] for row in between]
            for one, row in enumerate(depths):
                for other in range(len(depths)):
                    for third in range(len(depths)):
                        three = sorted([row[other], row[third], depths[other][third]])
                        self.assertEqual(three[1], three[2])

    def test_full_yards_are_closed_and_fewer_with_depth(self):
        for plan in PLANS:
            for depth in range(len(plan) + 1):
                full = list(full_yards(plan, depth=depth))
                self.assertEqual(full, in_order(full))
                for yard in full:
                    for other in full:
                        self.assertIn(join_of(yard, other, depth=depth), full)
                        self.assertIn(meet_of(yard, other), full)
                deeper = list(full_yards(plan, depth=depth + 1))
                self.assertEqual([yard for yard in full if yard in deeper], deeper)


class TestNothingChanges(unittest.TestCase):
    def test_arguments_are_not_changed(self):
        props = ["left", "left"]
        yard = Yard(HUT)
        first = grown(yard, depth=1, props=props)
        results = [(grown(yard), grown(yard, depth=1, props=props), is_full(yard, depth=1), list(full_yards(HUT)),
                    join_of(yard, yard, depth=1), meet_of(yard, yard)) for _ in range(2)]
        self.assertEqual(results[0], results[1])
        self.assertEqual((props, yard), (["left", "left"], Yard(HUT)))
        props[:] = ["zz"]
        self.assertEqual(first, Yard(HUT, HUT.names))
        with self.assertRaises(NoPart):
            grown(yard, props=props)
        self.assertEqual(grown(yard), results[0][0])


class TestTime(unittest.TestCase):
    def setUp(self):
        source = random.Random("time")
        others = {name: [other for other in "hgfedcba" if other != name] for name in "hgfedcba"}
        self.plans = [model.ring("hgfedcba", count) for count in range(8)]
        self.plans += [model.random_plan(source, 8) for _ in range(10)]
        self.plans.append(Plan([(name, AtLeast(at, *[Needs(other) for other in others[name]]))
                                for at, name in enumerate("hgfedcba")]))
        self.begun = time.perf_counter()

    def tearDown(self):
        self.assertLess(time.perf_counter() - self.begun, 10)

    def test_eight_parts(self):
        for plan in self.plans:
            for depth in range(3):
                full = list(full_yards(plan, depth=depth))
                self.assertIn(grown(Yard(plan), depth=depth), full)
                self.assertEqual(grown(Yard(plan, plan.names[:4]), depth=depth, props=plan.names[2:4]),
                                 grown(Yard(plan, plan.names[:4]), depth=depth, props=plan.names[3:1:-1]))

    def test_greater_depths(self):
        for plan in [SIX, *self.plans]:
            for depth in range(3, 9):
                self.assertIs(is_full(grown(Yard(plan), depth=depth), depth=depth), True)
                if depth >= len(plan):
                    self.assertEqual(len(list(full_yards(plan, depth=depth))), 1)


if __name__ == "__main__":
    unittest.main()
