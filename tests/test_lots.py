"""Promises [35] to [37], with [2], [3], [8], [10] and what [11] says of lots."""

import random
import time
import unittest
from itertools import islice

from nestprops.errors import Falls, OtherPlan
from nestprops.growth import full_yards, grown
from nestprops.joined import depth_between
from nestprops.lots import depth_text, lot_of, lot_tree, lots
from nestprops.plans import Plan
from nestprops.rules import All, Always, Needs, Never
from nestprops.yards import Yard, all_yards
from tests import model
from tests.model import ARCH, EIGHT, HUT

PLANS = [ARCH, HUT, *model.random_plans(20, "lots"), *model.knotted_plans(20, "lots")]
SIX = [model.ring("fedcba", count) for count in range(6)] + model.knotted_plans(5, "six lots", 6, 6)
ROWS = ("none                  0  0  1", "base                  0  0  1", "base left right roof  1  1  0")


def expected_lots(plan, depth):
    """Return the lots at a depth, from the words of [8]."""
    return [tuple(Yard(plan, sorted(one)) for one in lot) for lot in model.lots_at(plan, depth)]


def expected_tree(plan):
    """Return the tree of all lots, from the words of [36]."""
    by_depth = [[frozenset(lot) for lot in model.lots_at(plan, depth)] for depth in range(len(plan) + 1)]
    return expected_node(plan, by_depth, frozenset(model.standing(plan)))


def expected_node(plan, by_depth, lot):
    depth = min(depth for depth, found in enumerate(by_depth) if lot in found)
    parts = model.in_plan_order(plan, max(lot, key=len))
    inner = [one for one in by_depth[depth - 1] if one <= lot] if depth > 0 else []
    return depth, parts, tuple(expected_node(plan, by_depth, one) for one in inner)


class TestLots(unittest.TestCase):
    def test_by_meaning(self):
        for plan in PLANS:
            for depth in range(len(plan) + 2):
                self.assertEqual(list(lots(plan, depth)), expected_lots(plan, depth), (plan, depth))

    def test_by_meaning_with_five_parts(self):
        for plan in model.random_plans(3, "five lots", 5, 5) + model.knotted_plans(3, "five lots", 5, 5):
            for depth in range(3):
                self.assertEqual(list(lots(plan, depth)), expected_lots(plan, depth))

    def test_kinds(self):
        for lot in lots(HUT, 0):
            self.assertIs(type(lot), tuple)
            self.assertEqual({type(yard) for yard in lot}, {Yard})
            self.assertEqual([yard.plan for yard in lot], [HUT] * len(lot))

    def test_each_standing_yard_is_in_one_lot(self):
        for plan in [*SIX, EIGHT, *model.random_plans(4, "eight lots", 8, 8)]:
            for depth in range(3):
                found = [yard.parts for lot in lots(plan, depth) for yard in lot]
                self.assertEqual(sorted(found), sorted(yard.parts for yard in all_yards(plan)))

    def test_the_greatest_yard_is_the_growth_of_each(self):
        for plan in PLANS:
            for depth in range(3):
                greatest = []
                for lot in lots(plan, depth):
                    greatest.append(lot[-1])
                    for yard in lot:
                        self.assertEqual(grown(yard, depth=depth), lot[-1])
                        self.assertLessEqual(set(yard.parts), set(lot[-1].parts))
                self.assertEqual(greatest, list(full_yards(plan, depth=depth)))

    def test_by_name_and_by_position(self):
        self.assertEqual(list(lots(depth=1, plan=ARCH)), list(lots(ARCH, 1)))

    def test_left_unfinished_and_by_turns(self):
        expected = list(lots(HUT, 0))
        first, second = iter(lots(HUT, 0)), iter(lots(HUT, 0))
        self.assertEqual(list(islice(first, 1)), expected[:1])
        self.assertEqual(next(second), expected[0])
        self.assertEqual(list(islice(lots(ARCH, 0), 1)), [(Yard(ARCH),)])
        self.assertEqual(next(first), expected[1])
        self.assertEqual(next(second), expected[1])
        self.assertEqual(list(first) + list(second), [])
        self.assertEqual(list(lots(HUT, 0)), expected)

    def test_one_part(self):
        for rule, expected in ((Always(), [((), ("a",))]), (Never(), [((),)])):
            plan = Plan([("a", rule)])
            for depth in range(9):
                self.assertEqual([tuple(yard.parts for yard in lot) for lot in lots(plan, depth)], expected)


class TestLotOf(unittest.TestCase):
    def test_by_meaning(self):
        for plan in PLANS:
            for depth in range(4):
                for lot in expected_lots(plan, depth):
                    for yard in lot:
                        self.assertEqual(lot_of(yard, depth), lot)

    def test_by_name_and_by_position(self):
        result = lot_of(depth=0, yard=Yard(HUT))
        self.assertEqual(result, (Yard(HUT), Yard(HUT, ["base"])))
        self.assertIs(type(result), tuple)

    def test_falls(self):
        for parts, names in ((["roof", "left", "base"], ("left", "roof")), (["left"], ("left",))):
            for depth in (0, 2, 8):
                with self.assertRaises(Falls) as caught:
                    lot_of(Yard(HUT, parts), depth)
                self.assertEqual(caught.exception.names, names)

    def test_limits(self):
        begun = time.monotonic()
        for plan in SIX:
            self.assertEqual([lot_of(Yard(plan), 8)], list(lots(plan, 8)))
            for depth in range(9):
                self.assertIn(lot_of(Yard(plan), depth), list(lots(plan, depth)))
        for depth in range(3):
            self.assertIn(lot_of(Yard(EIGHT), depth), list(lots(EIGHT, depth)))
        self.assertLess(time.monotonic() - begun, 20)


class TestLotTree(unittest.TestCase):
    def test_by_meaning(self):
        for plan in PLANS:
            self.assertEqual(lot_tree(plan), expected_tree(plan), plan)

    def test_examples(self):
        self.assertEqual(lot_tree(ARCH), (2, ("x", "y", "z"), ((0, (), ()), (0, ("x", "y", "z"), ()))))
        self.assertEqual(lot_tree(plan=HUT), (1, HUT.names, ((0, ("base",), ()), (0, HUT.names, ()))))

    def test_a_single_lot(self):
        for rule, parts in ((Always(), ("a",)), (Never(), ())):
            self.assertEqual(lot_tree(Plan([("a", rule)])), (0, parts, ()))

    def test_depths_that_skip_some(self):
        # Two pairs, each of which needs one prop, and three poles that need two.
        rows = [(name, ARCH.rule(name)) for name in ARCH.names]
        plan = Plan([*rows, ("b", Needs("a")), ("a", Needs("b"))])
        depth, parts, nodes = lot_tree(plan)
        self.assertEqual((depth, parts), (2, ("x", "y", "z", "b", "a")))
        self.assertEqual([(depth, parts) for depth, parts, _ in nodes], [(1, ("b", "a")), (1, plan.names)])
        self.assertEqual(nodes[0][2], ((0, (), ()), (0, ("b", "a"), ())))
        self.assertEqual(nodes[1][2], ((0, ("x", "y", "z"), ()), (0, plan.names, ())))
        self.assertEqual(lot_tree(plan), expected_tree(plan))

    def test_six_parts(self):
        begun = time.monotonic()
        for count, plan in enumerate(SIX[:6]):
            inner = () if count == 0 else ((0, (), ()), (0, plan.names, ()))
            self.assertEqual(lot_tree(plan), (count, plan.names, inner))
        for plan in SIX[6:]:
            self.assertEqual(lot_tree(plan)[1], grown(Yard(plan), depth=6).parts)
        self.assertLess(time.monotonic() - begun, 20)


class TestDepthText(unittest.TestCase):
    def test_document_example(self):
        self.assertEqual(depth_text([Yard(HUT), Yard(HUT, ["base"]), Yard(HUT, HUT.names)]), "\n".join(ROWS))

    def test_by_meaning(self):
        source = random.Random("texts")
        for plan in [*PLANS, *SIX]:
            yards = [source.choice(list(all_yards(plan))) for _ in range(source.randint(1, 5))]
            texts = [" ".join(yard.parts) or "none" for yard in yards]
            width = max(len(text) for text in texts)
            rows = [text + " " * (width - len(text)) + "".join(f"  {depth_between(yard, other)}" for other in yards)
                    for text, yard in zip(texts, yards)]
            self.assertEqual(depth_text(yards), "\n".join(rows))
            self.assertEqual(depth_text(yards=tuple(yards)), "\n".join(rows))

    def test_one_yard(self):
        self.assertEqual(depth_text([Yard(HUT)]), "none  0")
        self.assertEqual(depth_text((Yard(ARCH, ARCH.names),)), "x y z  0")
        plan = Plan([("a", Always())])
        self.assertEqual(depth_text([Yard(plan, ["a"])]), "a  0")
        self.assertEqual(depth_text([Yard(plan, ["a"]), Yard(plan)]), "a     0  0\nnone  0  0")

    def test_repeated_yards(self):
        self.assertEqual(depth_text([Yard(ARCH), Yard(ARCH, "xyz"), Yard(ARCH)]),
                         "none   0  2  0\nx y z  2  0  2\nnone   0  2  0")

    def test_twenty_yards(self):
        begun = time.monotonic()
        for plan in SIX:
            yards = (list(all_yards(plan)) * 20)[:20]
            rows = depth_text(yards).split("\n")
            self.assertEqual(len(rows), 20)
            self.assertEqual({len(row) for row in rows},
                             {max(len(" ".join(yard.parts) or "none") for yard in yards) + 60})
        self.assertLess(time.monotonic() - begun, 20)

    def test_other_plan_before_falls(self):
        falls = Yard(ARCH, ["x"])
        for yards in ([falls, Yard(HUT)], [Yard(ARCH), falls, Yard(HUT)], (Yard(HUT), Yard(HUT), falls)):
            self.assertRaises(OtherPlan, depth_text, yards)

    def test_falls_of_the_first_yard_that_does_not_stand(self):
        cases = [([["y"], ["x"]], ("y",)), ([["z", "x"]], ("x", "z")), ([[], ["z", "y"], ["x"]], ("y", "z"))]
        for yards, names in cases:
            with self.assertRaises(Falls) as caught:
                depth_text([Yard(ARCH, parts) for parts in yards])
            self.assertEqual(caught.exception.names, names)

    def test_arguments_stay(self):
        yards = [Yard(HUT), Yard(HUT, ["base"])]
        depth_text(yards)
        self.assertEqual(yards, [Yard(HUT), Yard(HUT, ["base"])])

    def test_equal_plans(self):
        again = Plan([(name, All(*[HUT.rule(name)])) for name in HUT.names])
        self.assertEqual(depth_text([Yard(HUT), Yard(again, ["base"]), Yard(HUT, HUT.names)]), "\n".join(ROWS))


if __name__ == "__main__":
    unittest.main()
