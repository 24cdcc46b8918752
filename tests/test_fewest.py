"""Promises [38] and [39], with [1], [2], [3] and [7]."""

import random
import time
import unittest
from itertools import product

from nestprops.fewest import distance_table, distances_hold, fewest_deeds, fewest_script
from nestprops.joined import are_joined
from nestprops.plans import Plan
from nestprops.rules import Always
from nestprops.scripts import script_holds
from nestprops.yards import Yard, all_yards
from tests import model
from tests.model import ARCH, HUT
from tests.pairs import PairErrors

PLANS = [ARCH, HUT, *model.random_plans(15, "fewest", most=3), *model.knotted_plans(8, "fewest", most=3),
         *model.knotted_plans(3, "fewest four", 4, 4)]
FIVE = [model.ring("edcba", count) for count in range(5)] + model.knotted_plans(5, "five", 5, 5)
EMPTY, FULL = Yard(ARCH), Yard(ARCH, ARCH.names)
ONE = Plan([("a", Always())])
NONE_A, A = Yard(ONE), Yard(ONE, ["a"])
# The table of ONE at depth 0, from the empty yard.
TABLE = (((), (), 0), (("a",), (), 1))

ANY_VALUES = (
    None, True, False, 0, 1, "", "a", (), ((),), (((),),), ((), ()), ((), (), ()), (((), (), 0),), (None,), (True,),
    (0,),
    ((((((),),),),),), [], [((), (), 0)], {}, (((), (), 0, 0),), (((), ()),), ((None, (), 0),), (((), None, 0),),
)


def pairs(plan, depth, many=12):
    """Return pairs of standing yards and the numbers of deeds between them, from the words of [38]."""
    source = random.Random(many)
    found = []
    yards = model.standing(plan)
    for parts in source.sample(yards, min(len(yards), many // 3)):
        numbers = model.distances(plan, parts, depth)
        for others in model.standing(plan):
            found.append((Yard(plan, sorted(parts)), Yard(plan, sorted(others)), numbers.get((others, ()))))
    return found if len(found) <= many else source.sample(found, many)


class TestArguments(PairErrors, unittest.TestCase):
    def calls(self, yard, other):
        yield lambda: fewest_deeds(yard, other, 1)
        yield lambda: fewest_deeds(depth=1, other=other, yard=yard)
        yield lambda: fewest_script(yard, other, 1)
        yield lambda: fewest_script(depth=1, other=other, yard=yard)
        yield lambda: distance_table(yard, other, 1)
        yield lambda: distance_table(depth=1, other=other, yard=yard)
        for table in (TABLE, None, (), 7, ((True,),)):
            yield lambda: distances_hold(yard, other, 1, 0, table)
            yield lambda: distances_hold(table=table, number=0, depth=1, other=other, yard=yard)


class TestFewest(unittest.TestCase):
    def test_by_meaning(self):
        barred = 0
        for plan in PLANS:
            for depth in range(3):
                for yard, other, number in pairs(plan, depth):
                    result = fewest_deeds(yard, other, depth)
                    self.assertEqual(result, number, (yard, other, depth))
                    self.assertIs(type(result), type(number))
                    barred += number is None
        self.assertGreater(barred, 20)

    def test_scripts(self):
        for plan in PLANS:
            for depth in range(3):
                for yard, other, number in pairs(plan, depth):
                    script = fewest_script(yard, other, depth)
                    if number is None:
                        self.assertIsNone(script)
                    else:
                        self.assertIs(type(script), tuple)
                        self.assertEqual(len(script), number)
                        self.assertTrue(script_holds(yard, other, depth, script))

    def test_five_parts(self):
        for plan in FIVE:
            for yard, other, number in pairs(plan, 2, 6):
                self.assertEqual(fewest_deeds(yard, other, 2), number)
                self.assertIs(number is not None, are_joined(yard, other, 2))

    def test_arch(self):
        self.assertEqual(fewest_deeds(EMPTY, FULL, 2), 7)
        self.assertIsNone(fewest_deeds(EMPTY, FULL, 1))
        self.assertIsNone(fewest_script(FULL, EMPTY, 0))

    def test_equal_yards(self):
        for plan in (ARCH, HUT, ONE):
            for yard in all_yards(plan):
                for depth in range(3):
                    self.assertEqual(fewest_deeds(yard, yard, depth), 0)
                    self.assertEqual(fewest_script(yard, yard, depth), ())

    def test_more_depth_may_save_deeds(self):
        # Without a prop `c` and `m` must be put, and taken away again.
        plan = Plan.read("z : any ( roof , all ( c , m ) )\nc : always\nroof : z\nm : always")
        found = [fewest_deeds(Yard(plan), Yard(plan, ["z", "roof"]), depth) for depth in range(3)]
        self.assertEqual(found, [6, 4, 4])
        for other in PLANS:
            for yard, goal, number in pairs(other, 1):
                if number is not None:
                    self.assertLessEqual(fewest_deeds(yard, goal, 2), number)


class TestDistanceTable(unittest.TestCase):
    def test_tables_hold_with_the_number_of_fewest_deeds(self):
        for plan in PLANS:
            for depth in range(3):
                for yard, other, number in pairs(plan, depth):
                    table = distance_table(yard, other, depth)
                    if number is None:
                        self.assertIsNone(table)
                    else:
                        self.assertIs(type(table), tuple)
                        for less in range(number + 1):
                            self.assertIs(distances_hold(yard, other, depth, less, table), True)
                        self.assertIs(distances_hold(yard, other, depth, number + 1, table), False)
                        one, goal = frozenset(yard.parts), frozenset(other.parts)
                        self.assertTrue(model.shows_distance(plan, one, goal, depth, number, table))

    def test_five_parts(self):
        begun = time.monotonic()
        for plan in FIVE:
            for yard, other, number in pairs(plan, 2, 6):
                table = distance_table(yard, other, 2)
                self.assertIs(table is None, number is None)
                if number is not None:
                    self.assertTrue(distances_hold(yard, other, 2, number, table))
                    self.assertTrue(all(type(item[2]) is int for item in table))
        self.assertLess(time.monotonic() - begun, 20)

    def test_equal_yards_and_depth_zero(self):
        for depth in range(3):
            self.assertTrue(distances_hold(FULL, FULL, depth, 0, distance_table(FULL, FULL, depth)))
        self.assertTrue(distances_hold(NONE_A, A, 0, 1, distance_table(NONE_A, A, 0)))
        self.assertIsNone(distance_table(EMPTY, FULL, 0))


class TestDistancesHold(unittest.TestCase):
    def same(self, yard, other, depth, number, table):
        parts, others = frozenset(yard.parts), frozenset(other.parts)
        expected = model.shows_distance(yard.plan, parts, others, depth, number, table)
        self.assertIs(distances_hold(yard, other, depth, number, table), expected, (yard, other, depth, number, table))
        return expected

    def test_the_table_of_one_part(self):
        self.assertTrue(self.same(NONE_A, A, 0, 1, TABLE))
        self.assertTrue(self.same(NONE_A, A, 0, 1, TABLE[::-1]))
        self.assertTrue(self.same(NONE_A, A, 0, 0, TABLE))
        self.assertFalse(self.same(NONE_A, A, 0, 2, TABLE))
        self.assertFalse(self.same(A, NONE_A, 0, 1, TABLE))
        self.assertTrue(self.same(A, NONE_A, 0, 1, ((("a",), (), 0), ((), (), 5))))

    def test_any_value(self):
        for value in ANY_VALUES:
            for number in range(3):
                self.assertIs(self.same(NONE_A, A, 0, number, value), value == (((), (), 0),) and number < 2)
            self.assertFalse(self.same(NONE_A, A, 0, 1, (*TABLE, value)))
        self.assertFalse(distances_hold(NONE_A, A, 0, 1, list(TABLE)))

    def test_forms_of_an_entry(self):
        begun = ((), (), 0)
        wrong = [
            (("a",), (), True), (("a",), (), False), (("a",), (), "1"), (("a",), (), None), (("a",), (), (1,)),
            (("a",), 1),
            (("a",), (), 1, 1), ["a", (), 1], (["a"], (), 1), (("a",), [], 1), ("a", (), 1), (("a",), "", 1),
            (("a", "a"), (), 1),
            (("b",), (), 1), (("a",), ("b",), 1), (("a",), ("a", "a"), 1), (("a",), ("a",), True), (("a", None), (), 1),
            (("a",), None, 1), (None, (), 1), (("a",), (), ()), (("a",), (("a",),), 1), ((True,), (), 1),
            ((("a",),), (), 1),
        ]
        for entry in wrong:
            for number in range(3):
                self.assertFalse(self.same(NONE_A, A, 1, number, (begun, entry)), entry)
        for worth in (1, 0, 2, -1, 10**30, -10**30):
            for number in range(4):
                self.same(NONE_A, A, 0, number, (begun, (("a",), (), worth)))

    def test_truth_is_no_number(self):
        self.assertFalse(self.same(NONE_A, A, 0, 1, (((), (), False), (("a",), (), 1))))
        self.assertFalse(self.same(NONE_A, A, 0, 1, (((), (), 0), (("a",), (), True))))

    def test_parts_in_plan_order(self):
        plan = Plan([("b", Always()), ("a", Always())])
        yard, other = Yard(plan), Yard(plan, ["a", "b"])
        table = distance_table(yard, other, 0)
        self.assertTrue(self.same(yard, other, 0, 2, table))
        self.assertIn((("b", "a"), (), 2), table)
        changed = tuple((("a", "b"), (), 2) if item[0] == ("b", "a") and item[1] == () else item for item in table)
        self.assertNotEqual(changed, table)
        self.assertFalse(self.same(yard, other, 0, 2, changed))

    def test_no_entry_twice(self):
        for entry in TABLE:
            self.assertFalse(self.same(NONE_A, A, 0, 1, (*TABLE, entry)))
            self.assertFalse(self.same(NONE_A, A, 0, 1, (*TABLE, (entry[0], entry[1], entry[2] + 1))))

    def test_no_stack_with_a_repeated_name(self):
        table = distance_table(EMPTY, FULL, 2)
        for stack in (("x", "x"), ("z", "z")):
            for parts in ((), ("x",), ("z",), ("x", "y", "z")):
                self.assertFalse(self.same(EMPTY, FULL, 2, 7, (*table, (parts, stack, 9))))

    def test_each_yard_stands_under_its_stack(self):
        table = distance_table(EMPTY, EMPTY, 1)
        for parts, stack in ((("x",), ()), (("x",), ("y",)), (("y", "z"), ("x",))):
            self.assertFalse(self.same(EMPTY, FULL, 1, 3, (*table, (parts, stack, 3))))

    def test_stacks_of_at_most_the_depth(self):
        table = distance_table(EMPTY, FULL, 2)
        self.assertTrue(self.same(EMPTY, FULL, 2, 7, table))
        for depth in (0, 1):
            self.assertFalse(self.same(EMPTY, FULL, depth, 7, table))
            shorter = tuple(item for item in table if len(item[1]) <= depth)
            self.assertTrue(self.same(EMPTY, FULL, depth, 7, shorter))

    def test_the_entry_of_the_first_yard(self):
        rest = TABLE[1:]
        self.assertFalse(self.same(NONE_A, A, 0, 1, rest))
        for worth in (1, -1, 2):
            self.assertFalse(self.same(NONE_A, A, 0, 1, (((), (), worth), *rest)))

    def test_the_entry_of_the_second_yard(self):
        self.assertTrue(self.same(NONE_A, A, 0, 1, TABLE[:1]))
        self.assertTrue(self.same(NONE_A, A, 0, 0, TABLE[:1]))
        self.assertFalse(self.same(NONE_A, A, 0, 2, TABLE[:1]))
        self.assertFalse(self.same(NONE_A, A, 0, 1, (TABLE[0], (("a",), (), 0))))
        self.assertTrue(self.same(NONE_A, A, 0, 1, (TABLE[0], (("a",), (), 7))))
        self.assertFalse(self.same(NONE_A, NONE_A, 0, 1, TABLE))
        self.assertTrue(self.same(NONE_A, NONE_A, 0, 0, TABLE))

    def test_yards_that_are_not_joined(self):
        table = distance_table(EMPTY, EMPTY, 1)
        for number in (0, 1, 50):
            self.assertTrue(self.same(EMPTY, FULL, 1, number, table))

    def test_only_entries_below_the_number_need_their_next_ones(self):
        for number in range(9):
            for most in range(9):
                table = tuple(item for item in distance_table(EMPTY, FULL, 2) if item[2] <= most)
                self.assertIs(self.same(EMPTY, FULL, 2, number, table), number <= 7 and most >= number - 1)

    def test_all_tables_over_one_part(self):
        keys = [((), ()), (("a",), ()), ((), ("a",)), (("a",), ("a",))]
        for depth in range(2):
            for worths in product((None, -1, 0, 1, 2), repeat=4):
                table = tuple((*key, worth) for key, worth in zip(keys, worths) if worth is not None)
                for number in range(4):
                    self.same(NONE_A, A, depth, number, table)

    def test_changed_tables(self):
        source = random.Random("changed")
        results = []
        for plan in PLANS:
            for yard, other, number in pairs(plan, 1, 8):
                table = distance_table(yard, other, 1)
                for _ in range(6 if table else 0):
                    at = source.randrange(len(table))
                    parts, stack, worth = table[at]
                    entry = [(parts, stack, worth + source.choice([-1, 1, 2]))]
                    changed = (*table[:at], *source.choice([entry, []]), *table[at + 1:])
                    results.append(self.same(yard, other, 1, max(0, number + source.choice([0, 0, -1])), changed))
        self.assertGreater(results.count(True), 100)
        self.assertGreater(results.count(False), 100)

    def test_long_tables(self):
        self.assertIs(distances_hold(NONE_A, A, 0, 1, TABLE * 1500), False)
        self.assertIs(distances_hold(NONE_A, A, 0, 1, TABLE + (((), (), 0),) * 2998), False)


class TestNothingChanges(unittest.TestCase):
    def test_the_same_call_returns_an_equal_result(self):
        def results():
            return [call(EMPTY, FULL, 2) for call in (fewest_deeds, fewest_script, distance_table)]

        before = results()
        fewest_script(FULL, EMPTY, 2)
        distance_table(Yard(HUT), Yard(HUT), 1)
        self.assertEqual(results(), before)


if __name__ == "__main__":
    unittest.main()
