"""Promise [25], with [3], [10] and what [11] says of strikes."""

import time
import unittest
from itertools import combinations

from nestprops.errors import NoPart
from nestprops.falls import fallen
from nestprops.plans import Plan
from nestprops.rules import Always, Needs, Never
from nestprops.strikes import least_stands, least_strikes
from nestprops.yards import Yard, all_yards
from tests import model
from tests.model import ARCH, EIGHT, HUT

PLANS = [ARCH, HUT, *model.random_plans(30, "strikes"), *model.knotted_plans(10, "strikes")]
# Parts that always stand, and others that several of them can hold.
PLANS += [Plan.read(text) for text in (
    "z : any ( a , all ( b , c ) , d )\na : always\nb : always\nc : always\nd : e\ne : always",
    "r : 2 of ( a , b , c )\na : always\nb : any ( a , c )\nc : any ( r , always )",
    "w : any ( u , v )\nv : any ( u , w )\nu : any ( v , w )\nt : all ( u , v )\ns : any ( t , w )",
)]


def least(sets):
    """Return the sets that no other one is within, in their order."""
    return [one for one in sets if not any(other < one for other in sets)]


def expected_stands(plan, parts, name):
    found = [one for one in model.subsets(plan) if one <= parts and name in one and model.stands(plan, one)]
    return [model.in_plan_order(plan, one) for one in least(found)]


def expected_strikes(plan, parts, name):
    found = [one for one in model.subsets(plan) if one <= parts and name not in model.rest(plan, parts - one)]
    return tuple(model.in_plan_order(plan, one) for one in least(found))


class TestLeastStands(unittest.TestCase):
    def test_by_meaning(self):
        several = 0
        for plan in PLANS:
            for parts in model.subsets(plan):
                for name in plan.names:
                    result = least_stands(Yard(plan, sorted(parts)), name)
                    self.assertIs(type(result), tuple)
                    self.assertEqual([yard.parts for yard in result], expected_stands(plan, parts, name))
                    self.assertEqual([(type(yard), yard.plan) for yard in result], [(Yard, plan)] * len(result))
                    several += len(result) > 1
        self.assertGreater(several, 20)

    def test_examples(self):
        full = Yard(HUT, HUT.names)
        self.assertEqual(least_stands(full, "roof"), (full,))
        self.assertEqual(least_stands(name="base", yard=full), (Yard(HUT, ["base"]),))
        self.assertEqual(least_stands(full, "left"), (Yard(HUT, ["base", "left", "right"]),))

    def test_a_part_that_is_not_in_the_rest(self):
        for parts, name in (([], "roof"), (["base"], "left"), (["roof"], "roof"), (["base", "left", "roof"], "left")):
            self.assertEqual(least_stands(Yard(HUT, parts), name), ())

    def test_eight_parts(self):
        # Each part needs four others: it stands with any four.
        full = Yard(EIGHT, EIGHT.names)
        others = [name for name in EIGHT.names if name != "a"]
        expected = [Yard(EIGHT, [*four, "a"]).parts for four in combinations(others, 4)]
        self.assertEqual([yard.parts for yard in least_stands(full, "a")], expected)
        others = [name for name in EIGHT.names if name != "e"]
        expected = [Yard(EIGHT, [*four, "e"]).parts for four in combinations(others, 4)]
        places = [[EIGHT.names.index(name) for name in parts] for parts in expected]
        ordered = [parts for _, parts in sorted(zip(places, expected))]
        self.assertEqual([yard.parts for yard in least_stands(full, "e")], ordered)

    def test_several_lengths(self):
        plan = PLANS[-3]
        found = [yard.parts for yard in least_stands(Yard(plan, plan.names), "z")]
        self.assertEqual(found, [("z", "a"), ("z", "b", "c"), ("z", "d", "e")])


class TestLeastStrikes(unittest.TestCase):
    def test_document_example(self):
        self.assertEqual(least_strikes(Yard(HUT, HUT.names), "roof"), (("base",), ("left",), ("right",), ("roof",)))

    def test_by_meaning(self):
        for plan in PLANS:
            for parts in model.subsets(plan):
                for name in plan.names:
                    result = least_strikes(Yard(plan, sorted(parts)), name)
                    self.assertEqual(result, expected_strikes(plan, parts, name), (plan, parts, name))
                    self.assertIs(type(result), tuple)
                    self.assertTrue(all(type(one) is tuple for one in result))

    def test_a_part_that_is_not_in_the_rest(self):
        for parts, name in (([], "roof"), (["base"], "left"), (["roof"], "roof"), (["base", "left", "roof"], "left")):
            self.assertEqual(least_strikes(Yard(HUT, parts), name), ((),))

    def test_by_name_and_by_position(self):
        self.assertEqual(least_strikes(name="base", yard=Yard(HUT, ["base"])), (("base",),))

    def test_eight_parts(self):
        begun = time.monotonic()
        full = Yard(EIGHT, EIGHT.names)
        for name in EIGHT.names:
            others = [other for other in EIGHT.names if other != name]
            self.assertEqual(least_strikes(full, name), ((name,), *combinations(others, 4)))
        self.assertLess(time.monotonic() - begun, 10)

    def test_order_is_that_of_the_plan(self):
        plan = Plan([("z", Always()), ("m", Needs("z")), ("a", Needs("m")), ("b", Never())])
        self.assertEqual(least_strikes(Yard(plan, "abmz"), "a"), (("z",), ("m",), ("a",)))


class TestBoth(unittest.TestCase):
    def test_no_part(self):
        for call in (least_stands, least_strikes):
            for yard in (Yard(HUT), Yard(HUT, HUT.names), Yard(HUT, ["roof"])):
                for name in ("q", "", "none", "roofs", "Roof"):
                    with self.assertRaises(NoPart) as caught:
                        call(yard, name)
                    self.assertEqual(caught.exception.name, name)

    def test_a_strike_that_meets_each_least_yard_brings_the_part_down(self):
        for plan in PLANS:
            for yard in all_yards(plan):
                for name in yard.parts:
                    stands = least_stands(yard, name)
                    for struck in model.tuples(plan):
                        meets = all(any(part in one for part in struck) for one in stands)
                        self.assertIs(name not in fallen(yard, struck), meets)

    def test_strikes_meet_the_least_yards(self):
        for plan in PLANS:
            for yard in all_yards(plan, standing=False):
                for name in yard.parts:
                    for struck in least_strikes(yard, name):
                        for one in least_stands(yard, name):
                            self.assertTrue(any(part in one for part in struck))

    def test_yards_stay(self):
        yard = Yard(HUT, HUT.names)
        first = (least_stands(yard, "roof"), least_strikes(yard, "roof"))
        least_strikes(yard, "base")
        self.assertEqual((least_stands(yard, "roof"), least_strikes(yard, "roof")), first)
        self.assertEqual(yard.parts, HUT.names)


if __name__ == "__main__":
    unittest.main()
