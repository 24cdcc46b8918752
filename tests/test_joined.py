"""Promises [32] to [34], with [2], [3], [8] and what [11] says of lots, scripts and bar tables."""

import random
import time
import unittest
from itertools import product

from nestprops.growth import grown
from nestprops.joined import are_joined, bar_holds, bar_table, depth_between, script_between
from nestprops.plans import Plan
from nestprops.rules import Always, Needs, Never, Some
from nestprops.scripts import reverse_of, script_holds
from nestprops.yards import Yard, all_yards
from tests import model
from tests.model import ARCH, EIGHT, HUT
from tests.pairs import PairErrors

PLANS = [ARCH, HUT, *model.random_plans(25, "joined"), *model.knotted_plans(25, "joined")]
SIX = [model.ring("fedcba", count) for count in range(6)] + model.random_plans(5, "six", 6, 6)
SIX += model.knotted_plans(10, "six", 6, 6)
EMPTY, FULL = Yard(ARCH), Yard(ARCH, ARCH.names)
BAR = (((), ()), (("x",), ("x",)), (("y",), ("y",)), (("z",), ("z",)))

ANY_VALUES = (
    None, True, False, 0, 1, "", "x", "none", (), ((),), (((),),), ((), ()), (((), ()),), (None,), (True,), (0,), ("",),
    ((((((),),),),),), (((), ()), ((), ())), [], [((), ())], {}, (((), (), ()),), (((), None),), ((None, ()),),
)


def standing(plan):
    return list(all_yards(plan))


def some_pairs(plan, many, seed):
    """Return pairs of standing yards, all of them or so many random ones."""
    pairs = list(product(standing(plan), repeat=2))
    return pairs if len(pairs) <= many else random.Random(seed).sample(pairs, many)


def pairs_by_depth(plan):
    """Return for each two standing yards and each depth whether they are joined, from the words of [8]."""
    found = []
    for depth in range(len(plan) + 2):
        lots = model.lots_at(plan, depth)
        for one, other in product(model.standing(plan), repeat=2):
            joined = any(one in lot and other in lot for lot in lots)
            found.append((Yard(plan, sorted(one)), Yard(plan, sorted(other)), depth, joined))
    return found


class TestArguments(PairErrors, unittest.TestCase):
    def calls(self, yard, other):
        yield lambda: are_joined(yard, other, 1)
        yield lambda: are_joined(depth=1, other=other, yard=yard)
        yield lambda: depth_between(yard, other)
        yield lambda: depth_between(other=other, yard=yard)
        yield lambda: script_between(yard, other, 1)
        yield lambda: script_between(depth=1, other=other, yard=yard)
        yield lambda: bar_table(yard, other, 1)
        yield lambda: bar_table(depth=1, other=other, yard=yard)
        for table in (BAR, None, (), 7, ((True,),)):
            yield lambda: bar_holds(yard, other, 1, table)
            yield lambda: bar_holds(table=table, depth=1, other=other, yard=yard)

    def test_equal_plans_need_not_be_the_same_object(self):
        again = Plan([(name, ARCH.rule(name)) for name in ARCH.names])
        self.assertIs(are_joined(Yard(again), FULL, 2), True)
        self.assertEqual(depth_between(Yard(again), FULL), 2)
        self.assertTrue(script_holds(EMPTY, FULL, 2, script_between(Yard(again), FULL, 2)))
        self.assertTrue(bar_holds(Yard(again), FULL, 1, bar_table(EMPTY, Yard(again, "xyz"), 1)))


class TestAreJoined(unittest.TestCase):
    def test_document_example(self):
        self.assertEqual(depth_between(Yard(ARCH), Yard(ARCH, ARCH.names)), 2)

    def test_by_meaning(self):
        for plan in PLANS:
            for yard, other, depth, joined in pairs_by_depth(plan):
                self.assertIs(are_joined(yard, other, depth), joined, (yard, other, depth))

    def test_depth_by_meaning(self):
        depths = set()
        for plan in PLANS:
            least = {}
            for yard, other, depth, joined in pairs_by_depth(plan):
                if joined:
                    least.setdefault((yard.parts, other.parts), depth)
            for (parts, others), depth in least.items():
                result = depth_between(Yard(plan, parts), Yard(plan, others))
                self.assertEqual(result, depth)
                self.assertIs(type(result), int)
                depths.add(depth)
        self.assertLessEqual({0, 1, 2}, depths)

    def test_by_meaning_with_five_parts(self):
        for plan in model.random_plans(3, "joined five", 5, 5) + model.knotted_plans(3, "joined five", 5, 5):
            for depth in range(3):
                for lot in model.lots_at(plan, depth):
                    for parts in model.standing(plan):
                        joined = are_joined(Yard(plan, sorted(lot[0])), Yard(plan, sorted(parts)), depth)
                        self.assertIs(joined, parts in lot)

    def test_equal_yards(self):
        for plan in (ARCH, HUT, EIGHT):
            for yard in standing(plan)[:4]:
                self.assertIs(are_joined(yard, yard, 0), True)
        for yard in standing(HUT):
            self.assertEqual(depth_between(yard, yard), 0)

    def test_rings_need_a_prop_for_each_part_that_must_be_there(self):
        for count, plan in enumerate(SIX[:6]):
            self.assertEqual(depth_between(Yard(plan), Yard(plan, plan.names)), count)
            self.assertEqual(depth_between(Yard(plan, plan.names), Yard(plan)), count)

    def test_great_depths(self):
        for plan in SIX:
            for yard, other in some_pairs(plan, 5, "great"):
                least = depth_between(yard, other)
                self.assertLessEqual(least, 6)
                for depth in range(9):
                    self.assertIs(are_joined(yard, other, depth), depth >= least)

    def test_eight_parts(self):
        plan = model.ring("hgfedcba", 2)
        self.assertIs(are_joined(Yard(plan), Yard(plan, plan.names), 1), False)
        self.assertIs(are_joined(Yard(plan), Yard(plan, plan.names), 2), True)
        self.assertIs(are_joined(Yard(EIGHT), Yard(EIGHT, EIGHT.names), 2), False)


class TestPromises(unittest.TestCase):
    """What [11] says of lots and depths."""

    def test_joined_exactly_if_the_growths_are_equal(self):
        for plan in PLANS:
            for yard, other in some_pairs(plan, 40, "growths"):
                for depth in range(4):
                    equal = grown(yard, depth=depth) == grown(other, depth=depth)
                    self.assertIs(are_joined(yard, other, depth), equal)

    def test_a_script_or_a_bar_table_but_never_both(self):
        for plan in PLANS:
            for yard, other in some_pairs(plan, 25, "evidence"):
                for depth in range(4):
                    script = script_between(yard, other, depth)
                    table = bar_table(yard, other, depth)
                    self.assertIs(script is None, table is not None)

    def test_lots_only_merge(self):
        for plan in PLANS:
            for yard, other in some_pairs(plan, 25, "merge"):
                joined = [are_joined(yard, other, depth) for depth in range(len(plan) + 1)]
                self.assertEqual(joined, sorted(joined))
                self.assertIs(joined[-1], True)

    def test_the_greatest_of_three_depths_occurs_twice(self):
        source = random.Random("three")
        for plan in [*PLANS, *SIX]:
            for _ in range(10):
                one, two, three = [source.choice(standing(plan)) for _ in range(3)]
                depths = sorted([depth_between(one, two), depth_between(two, three), depth_between(three, one)])
                self.assertEqual(depths[1], depths[2])
                self.assertEqual(depth_between(one, two), depth_between(two, one))

    def test_depth_zero_exactly_within_a_lot_at_depth_zero(self):
        for plan in PLANS:
            for yard, other in some_pairs(plan, 40, "zero"):
                self.assertIs(depth_between(yard, other) == 0, are_joined(yard, other, 0))


class TestScriptBetween(unittest.TestCase):
    def check(self, yard, other, depth):
        script = script_between(yard, other, depth)
        self.assertIs(script is not None, are_joined(yard, other, depth))
        if script is not None:
            self.assertIs(type(script), tuple)
            self.assertTrue(script_holds(yard, other, depth, script), (yard, other, depth))
            self.assertTrue(script_holds(other, yard, depth, reverse_of(script)))

    def test_scripts_hold(self):
        for plan in PLANS:
            for yard, other in some_pairs(plan, 40, "scripts"):
                for depth in range(6):
                    self.check(yard, other, depth)

    def test_scripts_with_six_parts(self):
        for plan in SIX:
            for yard, other in some_pairs(plan, 12, "six scripts"):
                for depth in range(6):
                    self.check(yard, other, depth)

    def test_scripts_with_eight_parts(self):
        for plan in [model.ring("hgfedcba", 2), EIGHT, *model.knotted_plans(8, "eight scripts", 8, 8)]:
            for yard, other in some_pairs(plan, 12, "eight scripts"):
                for depth in range(3):
                    self.check(yard, other, depth)

    def test_scripts_by_meaning(self):
        # Step by step, with the model instead of script_holds.
        for plan in PLANS:
            for yard, other in some_pairs(plan, 10, "meaning"):
                script = script_between(yard, other, 4)
                state = (frozenset(yard.parts), ())
                for deed in script:
                    state = model.step(plan, *state, deed)
                    self.assertLessEqual(len(state[1]), 4)
                self.assertEqual(state, (frozenset(other.parts), ()))

    def test_no_script(self):
        self.assertIsNone(script_between(EMPTY, FULL, 0))
        self.assertIsNone(script_between(EMPTY, FULL, 1))
        self.assertIsNone(script_between(FULL, EMPTY, 1))
        self.assertIsNone(script_between(Yard(HUT), Yard(HUT, HUT.names), 0))

    def test_equal_yards(self):
        for plan in (ARCH, HUT, EIGHT):
            for yard in standing(plan)[:4]:
                for depth in range(3):
                    self.assertTrue(script_holds(yard, yard, depth, script_between(yard, yard, depth)))

    def test_depth_zero(self):
        plan = Plan([("b", Always()), ("a", Needs("b")), ("c", Some(Needs("a"), Needs("b")))])
        for yard, other in some_pairs(plan, 100, "zero"):
            script = script_between(yard, other, 0)
            self.assertTrue(script_holds(yard, other, 0, script))
            self.assertNotIn("prop", [deed[0] for deed in script])


class TestBarTable(unittest.TestCase):
    def check(self, yard, other, depth):
        table = bar_table(yard, other, depth)
        self.assertIs(table is None, are_joined(yard, other, depth))
        if table is not None:
            self.assertIs(type(table), tuple)
            self.assertIs(bar_holds(yard, other, depth, table), True, (yard, other, depth))
            self.assertIs(bar_holds(other, yard, depth, table), True)

    def test_tables_hold(self):
        for plan in PLANS:
            for yard, other in some_pairs(plan, 40, "tables"):
                for depth in range(5):
                    self.check(yard, other, depth)

    def test_tables_by_meaning(self):
        many = 0
        for plan in PLANS:
            for yard, other in some_pairs(plan, 10, "table meaning"):
                for depth in range(4):
                    table = bar_table(yard, other, depth)
                    if table is not None:
                        many += 1
                        parts, others = frozenset(yard.parts), frozenset(other.parts)
                        self.assertTrue(model.bars(plan, parts, others, depth, table))
        self.assertGreater(many, 100)

    def test_tables_with_six_and_eight_parts(self):
        for plan in SIX:
            for yard, other in some_pairs(plan, 6, "six tables"):
                for depth in range(5):
                    self.check(yard, other, depth)
        for plan in [EIGHT, *model.knotted_plans(5, "eight tables", 8, 8)]:
            for yard, other in some_pairs(plan, 6, "eight tables"):
                for depth in range(3):
                    self.check(yard, other, depth)

    def test_no_table(self):
        self.assertIsNone(bar_table(EMPTY, FULL, 2))
        self.assertIsNone(bar_table(FULL, EMPTY, 3))
        for depth in range(5):
            self.assertIsNone(bar_table(FULL, FULL, depth))
            self.assertIsNone(bar_table(EMPTY, EMPTY, depth))

    def test_the_lesser_yard_may_come_second(self):
        # The full yard's growth holds all parts, so the table must be about the other one.
        for depth in range(2):
            table = bar_table(FULL, EMPTY, depth)
            self.assertTrue(bar_holds(FULL, EMPTY, depth, table))
            self.assertTrue(model.bars(ARCH, frozenset("xyz"), frozenset(), depth, table))

    def test_yards_beside_one_another(self):
        plan = Plan([("b", Needs("a")), ("a", Needs("b")), ("d", Needs("c")), ("c", Needs("d"))])
        left, right = Yard(plan, ["a", "b"]), Yard(plan, ["c", "d"])
        self.assertEqual(depth_between(left, right), 1)
        self.check(left, right, 0)
        self.check(right, left, 0)


    def test_what_grows_under_a_prop_stays_under_more_props(self):
        # Under x the parts p and q need one prop more, which the zones of x and another part do not have.
        rows = "x : never\np : all ( q , x )\nq : all ( p , x )\n"
        plan = Plan.read(rows + "\n".join(f"{name} : 3 of ( {' , '.join(sorted(set('abcd') - {name}))} )" for name in "abcd"))
        yard, other = Yard(plan), Yard(plan, "abcd")
        table = bar_table(yard, other, 2)
        self.assertIn((("x",), ("x", "p", "q")), table)
        self.assertTrue(model.bars(plan, frozenset(), frozenset("abcd"), 2, table))
        self.check(yard, other, 2)


class TestBarHolds(unittest.TestCase):
    def same(self, yard, other, depth, table):
        expected = model.bars(yard.plan, frozenset(yard.parts), frozenset(other.parts), depth, table)
        self.assertIs(bar_holds(yard, other, depth, table), expected, (yard, other, depth, table))
        return expected

    def test_document_example(self):
        table = (((), ()), (("x",), ("x",)), (("y",), ("y",)), (("z",), ("z",)))
        self.assertIs(bar_holds(Yard(ARCH), Yard(ARCH, ARCH.names), 1, table), True)

    def test_any_order_of_entries(self):
        source = random.Random("order")
        for _ in range(20):
            self.assertIs(bar_holds(EMPTY, FULL, 1, tuple(source.sample(BAR, len(BAR)))), True)

    def test_any_order_of_yards(self):
        self.assertIs(bar_holds(FULL, EMPTY, 1, BAR), True)

    def test_any_value(self):
        for value in ANY_VALUES:
            for depth in (0, 1):
                self.assertIs(self.same(EMPTY, FULL, depth, value), value == (((), ()),) and depth == 0)
            for item in ANY_VALUES:
                self.assertFalse(self.same(EMPTY, FULL, 1, (*BAR[:3], item)))
                self.assertFalse(self.same(EMPTY, FULL, 1, (*BAR, item)))

    def test_forms_of_an_entry(self):
        whole = BAR[:3]
        wrong = [
            (["z"], ("z",)), (("z",), ["z"]), [("z",), ("z",)], (("z",), ("z",), ()), (("z",),), ("z", ("z",)),
            ("z", "z"),
            (("z",), "z"), (("q",), ("z",)), (("z",), ("q",)), (("z",), ("z", "z")), (("z",), ("z", None)),
            (("z",), (True,)),
            (("z", "z"), ("z",)), (("y",), ("z",)), (("z",), (("z",),)), ((("z",),), ("z",)), (None, ("z",)),
            (("z",), None),
            (("z",), ("z", "y")), (("z", "x"), ("z",)), (("",), ("z",)), (("z",), ("",)), (("z ",), ("z",)),
            ((True,), ("z",)),
        ]
        for entry in wrong:
            self.assertFalse(self.same(EMPTY, FULL, 1, (*whole, entry)), entry)
        for entry in ((("z",), ("z",)), (("z",), ("x", "z")), (("z",), ("z", "x"))):
            self.same(EMPTY, FULL, 1, (*whole, entry))
        self.assertFalse(bar_holds(EMPTY, FULL, 1, list(BAR)))
        self.assertFalse(bar_holds(EMPTY, FULL, 1, None))

    def test_exactly_one_entry_for_each_stack(self):
        for at, entry in enumerate(BAR):
            self.assertFalse(self.same(EMPTY, FULL, 1, BAR[:at] + BAR[at + 1:]))
            self.assertFalse(self.same(EMPTY, FULL, 1, (*BAR, entry)))
        for stack in (("x", "y"), ("q",), ("x", "x")):
            self.assertFalse(self.same(EMPTY, FULL, 1, (*BAR, (stack, ("x", "y", "z")))))
        self.assertFalse(self.same(EMPTY, FULL, 0, BAR))
        self.assertTrue(self.same(EMPTY, FULL, 0, BAR[:1]))
        self.assertFalse(self.same(EMPTY, FULL, 2, BAR))

    def test_stacks_with_other_orders_are_other_stacks(self):
        plan = model.ring("dcba", 3)
        table = bar_table(Yard(plan), Yard(plan, "abcd"), 2)
        self.assertTrue(self.same(Yard(plan), Yard(plan, "abcd"), 2, table))
        self.assertEqual(len(table), 1 + 4 + 12)
        for at, (stack, parts) in enumerate(table):
            changed = (*table[:at], (stack[::-1], parts), *table[at + 1:])
            self.assertIs(self.same(Yard(plan), Yard(plan, "abcd"), 2, changed), len(stack) < 2)

    def test_no_stack_with_a_repeated_name(self):
        plan = model.ring("dcba", 3)
        yard, other = Yard(plan), Yard(plan, "abcd")
        for depth in (1, 2):
            table = bar_table(yard, other, depth)
            for stack in (("a", "a"), ("d", "d"), ("a", "b", "a"), ("c", "d", "d")):
                for parts in model.tuples(plan):
                    self.assertFalse(bar_holds(yard, other, depth, (*table, (stack, parts))))
                    self.assertFalse(bar_holds(yard, other, depth, (*table[:-1], (stack, parts))))

    def test_all_tables_over_two_parts(self):
        rules = {"a": (Always(), Never(), Needs("b")), "b": (Always(), Never(), Needs("a"))}
        true = 0
        for first, second in product(rules["b"], rules["a"]):
            plan = Plan([("b", first), ("a", second)])
            zones = model.tuples(plan)
            for depth in range(2):
                keys = model.stacks(plan, depth)
                for chosen in product(zones, repeat=len(keys)):
                    table = tuple(zip(keys, chosen))
                    for yard, other in product(standing(plan), repeat=2):
                        true += self.same(yard, other, depth, table)
        self.assertEqual(true, 2)

    def test_tables_with_one_part_more_or_less(self):
        source = random.Random("flips")
        results = []
        for plan in PLANS:
            for yard, other in some_pairs(plan, 12, "flips"):
                depth = source.choice([0, 1, 1, 2])
                table = bar_table(yard, other, depth)
                for _ in range(6 if table else 0):
                    at = source.randrange(len(table))
                    stack, parts = table[at]
                    parts = model.in_plan_order(plan, set(parts) ^ {source.choice(plan.names)})
                    changed = (*table[:at], (stack, parts), *table[at + 1:])
                    results.append(self.same(yard, other, depth, changed))
        self.assertGreater(results.count(True), 10)
        self.assertGreater(results.count(False), 100)

    def test_all_tables_over_three_parts_at_depth_one(self):
        stacks = model.stacks(ARCH, 1)
        zones = product(model.tuples(ARCH), repeat=4)
        true = [self.same(EMPTY, FULL, 1, tuple(zip(stacks, chosen))) for chosen in zones]
        self.assertEqual(true.count(True), 1)

    def test_the_zone_of_a_stack_holds_that_of_the_shorter_one(self):
        # Nothing else is wrong with it: a lone pole supports nothing, and falls without its prop.
        table = (((), ("x",)), (("x",), ("x",)), (("y",), ("y",)), (("z",), ("z",)))
        self.assertFalse(self.same(EMPTY, FULL, 1, table))

    def test_what_remains_without_the_last_prop_is_in_the_zone(self):
        everything = ("x", "y", "z")
        table = (((), ()), (("x",), everything), (("y",), ("y",)), (("z",), ("z",)))
        self.assertFalse(self.same(EMPTY, FULL, 1, table))

    def test_exactly_one_yard_is_within(self):
        everything = tuple((stack, ("x", "y", "z")) for stack in model.stacks(ARCH, 1))
        self.assertFalse(self.same(EMPTY, FULL, 1, everything))
        self.assertFalse(self.same(EMPTY, EMPTY, 1, BAR))
        self.assertFalse(self.same(FULL, FULL, 1, BAR))
        self.assertFalse(self.same(FULL, FULL, 1, everything))

    def test_depths_beyond_the_number_of_parts(self):
        plan = Plan([("b", Needs("a")), ("a", Needs("b"))])
        for depth in range(5):
            for zone in (("b", "a"), ()):
                table = tuple((stack, zone or stack) for stack in model.stacks(plan, depth))
                self.same(Yard(plan), Yard(plan, ["a", "b"]), depth, table)
                self.assertFalse(bar_holds(Yard(plan), Yard(plan, ["a", "b"]), depth, table) and depth > 0)


class TestLimits(unittest.TestCase):
    def test_calls_at_the_limits_come_to_their_end(self):
        begun = time.monotonic()
        for plan in SIX:
            empty, full = Yard(plan), Yard(plan, plan.names).rest
            self.assertLessEqual(depth_between(empty, full), 6)
            are_joined(empty, full, 8)
            script_between(empty, full, 5)
            table = bar_table(empty, full, 4)
            self.assertIs(bar_holds(empty, full, 4, table), table is not None)
        for plan in [EIGHT, model.ring("hgfedcba", 2)]:
            are_joined(Yard(plan), Yard(plan, plan.names), 2)
            script_between(Yard(plan), Yard(plan, plan.names), 2)
            bar_holds(Yard(plan), Yard(plan, plan.names), 2, bar_table(Yard(plan), Yard(plan, plan.names), 2))
        self.assertLess(time.monotonic() - begun, 20)

    def test_long_tables(self):
        entries = tuple(((f"a{at}",), ()) for at in range(1499))
        self.assertIs(bar_holds(EMPTY, FULL, 1, BAR + entries), False)
        self.assertIs(bar_holds(EMPTY, FULL, 1, BAR * 750), False)


class TestNothingChanges(unittest.TestCase):
    def test_the_same_call_returns_an_equal_result(self):
        yard, other = Yard(HUT), Yard(HUT, HUT.names)
        before = (depth_between(yard, other), script_between(yard, other, 3), bar_table(yard, other, 0))
        depth_between(EMPTY, FULL)
        bar_table(FULL, EMPTY, 1)
        script_between(other, yard, 1)
        self.assertEqual((depth_between(yard, other), script_between(yard, other, 3), bar_table(yard, other, 0)),
                         before)
        self.assertEqual((yard.parts, other.parts), ((), HUT.names))


if __name__ == "__main__":
    unittest.main()
