"""Promises [26] to [28], with [2], [3] and [7]."""

import random
import time
import unittest

from nestprops.errors import Falls, NoDeed, OtherPlan
from nestprops.plans import Plan
from nestprops.rules import All, Always, Needs
from nestprops.scripts import depth_of, reverse_of, run, script_holds
from nestprops.yards import Yard
from tests import model
from tests.model import ARCH, EIGHT, HUT

UP = (("prop", "x"), ("put", "x"), ("prop", "y"), ("put", "y"), ("put", "z"), ("unprop",), ("unprop",))
DOWN = (("prop", "x"), ("prop", "y"), ("take", "z"), ("take", "y"), ("unprop",), ("take", "x"), ("unprop",))
FULL = Yard(ARCH, ARCH.names)

NO_DEEDS = (
    None, True, False, 0, 1, -1, "", "put", "unprop", "put x", (), ("put",), ("take",), ("prop",), ("unprop", "x"),
    ("unprop", ()), ("unprop", None), ("put", "x", "y"), ("put", "x", None), ("put", ("x",)), (("put",), "x"),
    ("put", None), ("put", True), ("put", 0), ("put", ""), ("put", "none"), ("put", "zz"), ("prop", "zz"),
    ("take", "zz"), ("put", "x "), ("Put", "x"), ("strike", "x"), ("undo",), ("x", "put"), ("x",), (None,), (1, 2),
    (True, "x"), (("unprop",),), (("put", "x"),), ((), ()), ((((((),),),),),), ["put", "x"], ["unprop"], ("props", "x"),
    ("un",), ("pu", "x"), ("put", "x y"),
)


def scripts(many, seed, most=4):
    """Return random plans, each with a standing yard, a careful script and the yard to which it leads."""
    source = random.Random(seed)
    found = []
    for plan in model.random_plans(many, seed, most=most):
        for _ in range(5):
            parts = source.choice([one for one in model.subsets(plan) if model.stands(plan, one)])
            deeds, goal = model.walk(source, plan, parts, source.randint(0, 20), source.randint(0, 4))
            found.append((plan, Yard(plan, sorted(parts)), deeds, Yard(plan, sorted(goal))))
    return found


def depth_by_meaning(deeds):
    kinds = [deed[0] for deed in deeds]
    return max(kinds[:at].count("prop") - kinds[:at].count("unprop") for at in range(len(kinds) + 1))


def fault(yard, deeds):
    """Return the index that NoDeed must have, or None if the script is careful."""
    state = (frozenset(yard.parts), ())
    for at, deed in enumerate(deeds):
        state = model.step(yard.plan, *state, deed)
        if state is None:
            return at
    return len(deeds) if state[1] else None


class TestRun(unittest.TestCase):
    def no_deed(self, yard, deeds):
        with self.assertRaises(NoDeed) as caught:
            run(yard, deeds)
        return caught.exception.at

    def test_document_examples(self):
        self.assertEqual(run(Yard(ARCH), list(UP)).parts, ("x", "y", "z"))
        self.assertEqual(self.no_deed(Yard(ARCH), [("prop", "x"), ("put", "x"), ("unprop",)]), 2)

    def test_careful_scripts(self):
        lengths = set()
        for _, yard, deeds, goal in scripts(80, "careful"):
            self.assertEqual(run(yard, deeds), goal)
            self.assertEqual(run(yard, list(deeds)), goal)
            self.assertIs(type(run(yard, deeds)), Yard)
            lengths.add(len(deeds))
        self.assertGreater(max(lengths), 20)

    def test_no_deeds_at_all(self):
        for yard in (Yard(HUT), Yard(HUT, HUT.names), Yard(ARCH), FULL, Yard(EIGHT)):
            self.assertEqual(run(yard, []), yard)
            self.assertEqual(run(deeds=(), yard=yard), yard)

    def test_put(self):
        base = Yard(HUT, ["base"])
        self.assertEqual(run(Yard(HUT), [("put", "base")]), base)
        self.assertEqual(self.no_deed(base, [("put", "base")]), 0)
        self.assertEqual(self.no_deed(base, [("put", "left")]), 0)
        self.assertEqual(self.no_deed(base, [("prop", "left"), ("put", "roof")]), 1)
        self.assertEqual(self.no_deed(base, [("prop", "left"), ("put", "left"), ("put", "left")]), 2)

    def test_take(self):
        self.assertEqual(run(Yard(HUT, HUT.names), [("take", "roof")]), Yard(HUT, ["base", "left", "right"]))
        self.assertEqual(self.no_deed(Yard(HUT, HUT.names), [("take", "left")]), 0)
        self.assertEqual(self.no_deed(Yard(HUT), [("take", "base")]), 0)
        self.assertEqual(run(FULL, DOWN), Yard(ARCH))
        self.assertEqual(self.no_deed(FULL, [("prop", "x"), ("take", "z")]), 1)

    def test_a_propped_part_can_be_taken(self):
        deeds = [("prop", "x"), ("put", "x"), ("take", "x"), ("unprop",)]
        self.assertEqual(run(Yard(ARCH), deeds), Yard(ARCH))

    def test_prop(self):
        self.assertEqual(self.no_deed(FULL, [("prop", "x"), ("prop", "x")]), 1)
        self.assertEqual(self.no_deed(FULL, [("prop", "x"), ("prop", "y"), ("prop", "x")]), 2)
        self.assertEqual(run(FULL, [("prop", "x"), ("unprop",)] * 2), FULL)
        self.assertEqual(run(Yard(ARCH), [("prop", "z"), ("prop", "y"), ("prop", "x"), *[("unprop",)] * 3]), Yard(ARCH))

    def test_unprop_removes_the_last_prop(self):
        self.assertEqual(self.no_deed(Yard(ARCH), [("unprop",)]), 0)
        self.assertEqual(self.no_deed(FULL, [("prop", "x"), ("unprop",), ("unprop",)]), 2)
        deeds = [("prop", "x"), ("put", "x"), ("prop", "y"), ("unprop",), ("take", "x"), ("unprop",)]
        self.assertEqual(run(Yard(ARCH), deeds), Yard(ARCH))
        deeds = [("prop", "y"), ("prop", "x"), ("put", "x"), ("unprop",)]
        self.assertEqual(self.no_deed(Yard(ARCH), deeds), 3)

    def test_props_left_at_the_end(self):
        self.assertEqual(self.no_deed(FULL, [("prop", "x")]), 1)
        self.assertEqual(self.no_deed(Yard(ARCH), UP[:-1]), 6)
        self.assertEqual(self.no_deed(Yard(ARCH), list(UP[:-2])), 5)
        self.assertEqual(self.no_deed(FULL, [("prop", "x"), ("prop", "y"), ("unprop",)]), 3)

    def test_items_that_are_no_deeds(self):
        begun = (("prop", "x"), ("put", "x"))
        for item in NO_DEEDS:
            self.assertEqual(self.no_deed(Yard(ARCH), [item]), 0, item)
            self.assertEqual(self.no_deed(Yard(ARCH), begun + (item,)), 2, item)
            self.assertEqual(self.no_deed(Yard(ARCH), UP + (item, item)), len(UP), item)

    def test_the_first_fault_counts(self):
        self.assertEqual(self.no_deed(FULL, [("take", "x"), None, ("prop", "x")]), 0)
        self.assertEqual(self.no_deed(FULL, [("prop", "x"), None, ("take", "z")]), 1)
        self.assertEqual(self.no_deed(FULL, [("prop", "x"), ("take", "z"), None]), 1)

    def test_scripts_with_faults(self):
        source = random.Random("faults")
        wrong = 0
        for plan, yard, deeds, _ in scripts(60, "faulty"):
            changed = list(deeds)
            for _ in range(source.randint(1, 2)):
                changed.insert(source.randint(0, len(changed)), source.choice(model.deeds_of(plan)))
            if fault(yard, changed) is None:
                run(yard, changed)
            else:
                wrong += 1
                self.assertEqual(self.no_deed(yard, changed), fault(yard, changed))
        self.assertGreater(wrong, 100)

    def test_yards_that_do_not_stand(self):
        for yard, names in ((Yard(HUT, ["roof", "left"]), ("left", "roof")), (Yard(ARCH, ["x", "y"]), ("x", "y")),
                            (Yard(HUT, ["right", "base"]), ("right",)), (Yard(HUT, ["left", "right"]), ("left", "right")),
                            (Yard(HUT, ["roof", "right", "left"]), ("left", "right"))):
            for deeds in ([], [None], [("prop", "x")], list(UP)):
                with self.assertRaises(Falls) as caught:
                    run(yard, deeds)
                self.assertEqual(caught.exception.names, names)
                self.assertIs(type(caught.exception.names), tuple)

    def test_falls_names_only_what_is_not_supported_now(self):
        for plan in model.random_plans(60, "falls"):
            for parts in model.subsets(plan):
                names = model.falling(plan, parts)
                if names:
                    with self.assertRaises(Falls) as caught:
                        run(Yard(plan, sorted(parts)), ())
                    self.assertEqual(caught.exception.names, names)


class TestDepthAndReverse(unittest.TestCase):
    def test_depth(self):
        self.assertEqual(depth_of(()), 0)
        self.assertEqual(depth_of([]), 0)
        self.assertEqual(depth_of([("put", "a"), ("take", "a")]), 0)
        self.assertEqual(depth_of([("prop", "a"), ("unprop",), ("prop", "b"), ("unprop",)]), 1)
        self.assertEqual(depth_of(deeds=UP), 2)
        deep = [("prop", name) for name in "abcdefgh"] + [("unprop",)] * 8
        self.assertEqual(depth_of(deep), 8)
        self.assertEqual(depth_of(deep[:7] + deep[9:]), 7)
        for _, _, deeds, _ in scripts(40, "depth"):
            self.assertEqual(depth_of(deeds), depth_by_meaning(deeds))
            self.assertEqual(depth_of(list(deeds)), depth_by_meaning(deeds))

    def test_reverse(self):
        self.assertEqual(reverse_of(()), ())
        self.assertEqual(reverse_of([]), ())
        self.assertEqual(reverse_of([("put", "a"), ("take", "b")]), (("put", "b"), ("take", "a")))
        self.assertEqual(reverse_of([("prop", "a"), ("unprop",)]), (("prop", "a"), ("unprop",)))
        self.assertEqual(reverse_of(deeds=list(UP)), DOWN)
        self.assertEqual(reverse_of(DOWN), UP)
        deeds = (("prop", "a"), ("prop", "b"), ("unprop",), ("prop", "c"), ("put", "d"), ("unprop",), ("unprop",))
        self.assertEqual(reverse_of(deeds), (("prop", "a"), ("prop", "c"), ("take", "d"), ("unprop",), ("prop", "b"),
                                             ("unprop",), ("unprop",)))

    def test_reverse_leads_back(self):
        for _, yard, deeds, goal in scripts(60, "reverse"):
            back = reverse_of(deeds)
            self.assertIs(type(back), tuple)
            self.assertEqual(run(goal, back), yard)
            self.assertEqual(depth_of(back), depth_of(deeds))
            self.assertEqual(reverse_of(list(back)), deeds)

    def test_they_look_at_no_plan(self):
        deeds = (("put", "zz"), ("put", "zz"), ("prop", "q"), ("take", "zz"), ("unprop",))
        self.assertEqual(depth_of(deeds), 1)
        self.assertEqual(reverse_of(deeds), (("prop", "q"), ("put", "zz"), ("unprop",), ("take", "zz"), ("take", "zz")))


class TestScriptHolds(unittest.TestCase):
    def test_depths(self):
        for depth in range(9):
            self.assertIs(script_holds(Yard(ARCH), FULL, depth, UP), depth >= 2)
            self.assertIs(script_holds(FULL, Yard(ARCH), depth, DOWN), depth >= 2)
            self.assertIs(script_holds(FULL, FULL, depth, ()), True)
        self.assertIs(script_holds(deeds=UP, depth=2, goal=FULL, yard=Yard(ARCH)), True)

    def test_random_scripts(self):
        for plan, yard, deeds, goal in scripts(60, "script_holds"):
            depth = depth_of(deeds)
            self.assertIs(script_holds(yard, goal, depth, deeds), True)
            self.assertIs(script_holds(yard, goal, 8, deeds), True)
            if depth > 0:
                self.assertIs(script_holds(yard, goal, depth - 1, deeds), False)
            for parts in model.subsets(plan):
                other = Yard(plan, sorted(parts))
                self.assertIs(script_holds(yard, other, 8, deeds), other == goal)

    def test_any_value(self):
        for deeds in (list(UP), None, True, False, 0, 1, "", "put", "unprop", UP[:-1], UP[1:], UP + (None,), (UP,), (None,),
                      UP + ((),), (("unprop",),), *[UP + (item,) for item in NO_DEEDS], *[(item,) for item in NO_DEEDS]):
            self.assertIs(script_holds(Yard(ARCH), FULL, 8, deeds), False, deeds)
        for deeds in (None, [], "", False, 0, *NO_DEEDS):
            self.assertIs(script_holds(FULL, FULL, 8, deeds), deeds == () and type(deeds) is tuple, deeds)

    def test_yards_that_do_not_stand(self):
        part = Yard(ARCH, ["x"])
        self.assertIs(script_holds(part, part, 2, ()), False)
        self.assertIs(script_holds(part, Yard(ARCH), 2, (("take", "x"),)), False)
        self.assertIs(script_holds(Yard(ARCH), part, 2, ()), False)
        self.assertIs(script_holds(Yard(ARCH), part, 2, (("prop", "x"), ("put", "x"), ("unprop",))), False)
        self.assertIs(script_holds(Yard(ARCH), part, 2, (("prop", "x"), ("put", "x"))), False)

    def test_other_plans(self):
        for other in (Yard(HUT), Yard(Plan.of(y=ARCH.rule("y"), x=ARCH.rule("x"), z=ARCH.rule("z"))), Yard(EIGHT, ["a"])):
            for deeds in ((), UP, None, [], (None,)):
                for yard in (Yard(ARCH), Yard(ARCH, ["x"])):
                    with self.assertRaises(OtherPlan):
                        script_holds(yard, other, 2, deeds)
                    with self.assertRaises(OtherPlan):
                        script_holds(other, yard, 2, deeds)
        same = Plan.of(x=All(Needs("z"), Needs("y")), y=All(Needs("x"), Needs("z")), z=All(Needs("x"), Needs("y")))
        self.assertIs(script_holds(Yard(same), FULL, 2, UP), True)


class TestNothingChanges(unittest.TestCase):
    def test_arguments_are_not_changed(self):
        deeds = list(UP)
        yard = Yard(ARCH)
        for _ in range(2):
            self.assertEqual((run(yard, deeds), depth_of(deeds), reverse_of(deeds)), (FULL, 2, DOWN))
            with self.assertRaises(NoDeed):
                run(yard, [*deeds, None])
        self.assertEqual((deeds, yard), (list(UP), Yard(ARCH)))
        back = reverse_of(deeds)
        deeds.clear()
        self.assertEqual(back, DOWN)

    def test_four_hundred_deeds_on_eight_parts_take_no_long_time(self):
        build = [("prop", "h"), ("prop", "g"), ("prop", "f"), ("put", "h"), ("put", "g"), ("put", "f")]
        plan = model.ring("hgfedcba", 3)
        build += [("put", name) for name in "edcba"] + [("unprop",)] * 3
        deeds = tuple((build + list(reverse_of(build))) * 14)
        self.assertEqual(len(deeds), 392)
        begun = time.perf_counter()
        self.assertEqual(run(Yard(plan), build).parts, plan.names)
        self.assertEqual(run(Yard(plan), deeds), Yard(plan))
        self.assertIs(script_holds(Yard(plan), Yard(plan), 3, deeds), True)
        self.assertEqual(reverse_of(reverse_of(deeds)), deeds)
        self.assertLess(time.perf_counter() - begun, 5)

    def test_eight_props(self):
        plan = Plan.of(**{name: Always() for name in "abcdefgh"})
        deeds = tuple([("prop", name) for name in "hgfedcba"] + [("put", "c")] + [("unprop",)] * 8)
        self.assertEqual(run(Yard(plan), deeds), Yard(plan, ["c"]))
        self.assertIs(script_holds(Yard(plan), Yard(plan, ["c"]), 8, deeds), True)
        self.assertIs(script_holds(Yard(plan), Yard(plan, ["c"]), 7, deeds), False)


if __name__ == "__main__":
    unittest.main()
