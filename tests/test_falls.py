"""Promises [22] to [24], with [2], [3] and the fifth point of [11]."""

import random
import time
import unittest
from itertools import permutations

from nestprops.errors import NoPart
from nestprops.falls import fall_row, fall_row_holds, fall_rounds, fallen
from nestprops.plans import Plan
from nestprops.rules import Always, Needs
from nestprops.yards import Yard
from tests import model
from tests.model import ARCH, EIGHT, HUT

CHAIN = Plan([("h", Always()), *[(one, Needs(other)) for one, other in zip("gfedcba", "hgfedcb")]])


def cases(many, seed, most=4):
    """Return random plans, each with a yard, struck parts and props as lists with repeated names."""
    source = random.Random(seed)
    found = []
    for plan in model.random_plans(many, seed, most=most):
        for _ in range(6):
            parts = [name for name in plan.names if source.random() < 0.8]
            struck = [source.choice(plan.names) for _ in range(source.choice([0, 1, 1, 2, 3]))]
            props = [source.choice(plan.names) for _ in range(source.choice([0, 0, 1, 2, 3]))]
            found.append((plan, parts, struck, props))
    return found


def rounds_of(plan, parts, struck, props):
    """Return the rounds of a fall by the words of [23]."""
    left = frozenset(parts) - frozenset(struck)
    rounds = []
    while model.falling(plan, left, props):
        rounds.append(model.falling(plan, left, props))
        left = left - frozenset(rounds[-1])
    return rounds


class TestFallen(unittest.TestCase):
    def test_by_meaning(self):
        for plan, parts, struck, props in cases(150, "fallen"):
            rest = model.rest(plan, frozenset(parts) - frozenset(struck), props)
            result = fallen(Yard(plan, parts), struck, props)
            self.assertEqual(result, Yard(plan, sorted(rest)))
            self.assertIs(type(result), Yard)
            self.assertEqual(fallen(Yard(plan, parts), tuple(struck), tuple(props)), result)

    def test_defaults_and_names(self):
        yard = Yard(HUT, ["roof", "base", "left"])
        self.assertEqual(fallen(yard).parts, ("base",))
        self.assertEqual(fallen(yard, ["base"]).parts, ())
        self.assertEqual(fallen(yard, props=["left"]).parts, ("base", "left"))
        self.assertEqual(fallen(props=("left", "roof"), struck=["base"], yard=yard).parts, ("left", "roof"))

    def test_examples(self):
        arch, hut = Yard(ARCH, ARCH.names), Yard(HUT, HUT.names)
        self.assertEqual(fallen(arch).parts, ("x", "y", "z"))
        self.assertEqual(fallen(arch, ["y"]).parts, ())
        self.assertEqual(fallen(arch, ["y"], ["x"]).parts, ("x",))
        self.assertEqual(fallen(hut, ["roof"]).parts, ("base", "left", "right"))
        self.assertEqual(fallen(hut, ["left", "left"], ["roof", "roof"]).parts, ("base", "roof"))

    def test_a_propped_part_can_be_struck(self):
        self.assertEqual(fallen(Yard(HUT, HUT.names), ["left"], ["left"]).parts, ("base",))
        self.assertEqual(fallen(Yard(ARCH, ARCH.names), ["x"], ["x", "y"]).parts, ("y",))

    def test_struck_parts_that_are_not_there_have_no_effect(self):
        yard = Yard(HUT, ["base", "left", "right"])
        self.assertEqual(fallen(yard, ["roof"]), yard)
        self.assertEqual(fallen(Yard(HUT), ["roof", "base"], ["left"]), Yard(HUT))
        self.assertEqual(list(fall_rounds(yard, ["roof", "roof"])), [])
        self.assertIs(fall_row_holds(yard, (), ["roof"]), True)


class TestRounds(unittest.TestCase):
    def test_by_meaning(self):
        many = 0
        for plan, parts, struck, props in cases(150, "rounds", 5):
            rounds = rounds_of(plan, parts, struck, props)
            found = list(fall_rounds(Yard(plan, parts), struck, props))
            self.assertEqual(found, rounds)
            self.assertTrue(all(type(one) is tuple and one for one in found))
            many = max(many, len(rounds))
        self.assertGreater(many, 2)

    def test_examples(self):
        self.assertEqual(list(fall_rounds(Yard(ARCH, ARCH.names), ["y"])), [("x", "z")])
        self.assertEqual(list(fall_rounds(Yard(ARCH, ARCH.names))), [])
        self.assertEqual(list(fall_rounds(Yard(HUT))), [])
        self.assertEqual(list(fall_rounds(Yard(HUT, HUT.names), ["right"])), [("left", "roof")])
        self.assertEqual(list(fall_rounds(Yard(HUT, HUT.names), struck=["right"], props=["left"])), [("roof",)])
        self.assertEqual(list(fall_rounds(Yard(HUT, ["left", "roof"]))), [("left", "roof")])

    def test_eight_rounds(self):
        yard = Yard(CHAIN, CHAIN.names)
        self.assertEqual(list(fall_rounds(yard, ["h"])), [(name,) for name in "gfedcba"])
        self.assertEqual(list(fall_rounds(yard, ["h"], ["d"])), [("g",), ("f",), ("e",)])
        self.assertEqual(list(fall_rounds(Yard(CHAIN, list("abcdefg")))), [(name,) for name in "gfedcba"])

    def test_unfinished_and_by_turns(self):
        yard, other = Yard(CHAIN, CHAIN.names), Yard(CHAIN, ["a", "b", "c"])
        first = iter(fall_rounds(yard, ["h"]))
        begun = [next(first), next(first)]
        second = iter(fall_rounds(other))
        turns = []
        for one in second:
            turns.append(one)
            begun.append(next(first))
        self.assertEqual(turns, [("c",), ("b",), ("a",)])
        self.assertEqual(begun, [("g",), ("f",), ("e",), ("d",), ("c",)])
        self.assertEqual(list(fall_rounds(yard, ["h"])), [(name,) for name in "gfedcba"])


class TestRow(unittest.TestCase):
    def test_a_returned_row_holds(self):
        for plan, parts, struck, props in cases(150, "row", 5):
            yard = Yard(plan, parts)
            row = fall_row(yard, struck, props)
            self.assertIs(type(row), tuple)
            self.assertIs(fall_row_holds(yard, row, struck, props), True)
            self.assertEqual(sorted(row), sorted(set(parts) - set(struck) - set(fallen(yard, struck, props).parts)))

    def test_exactly_the_rows_of_the_document_hold(self):
        for plan, parts, struck, props in cases(60, "holds"):
            yard = Yard(plan, parts)
            for many in range(len(plan) + 1):
                for row in permutations(plan.names, many):
                    self.assertIs(fall_row_holds(yard, row, struck, props), holds(plan, parts, row, struck, props))

    def test_defaults_and_names(self):
        yard = Yard(HUT, ["roof", "base", "left"])
        self.assertIs(fall_row_holds(yard, fall_row(yard)), True)
        self.assertIs(fall_row_holds(props=["left"], struck=["base"], row=("roof",), yard=yard), True)
        self.assertEqual(fall_row(props=["left"], struck=["base"], yard=yard), ("roof",))
        self.assertEqual(fall_row(Yard(HUT)), ())

    def test_any_value(self):
        yard = Yard(HUT, HUT.names)
        self.assertIs(fall_row_holds(yard, ("left", "roof"), ["right"]), True)
        self.assertIs(fall_row_holds(yard, ("roof", "left"), ["right"]), True)
        for row in ((), ("left",), ("roof",), ("left", "roof", "base"), ("left", "left", "roof"), ("left", "roof", "roof"),
                    ("right", "left", "roof"), ("left", "roof", "right"), ("left", "roof", "zz"), ("zz", "left", "roof"),
                    ("left", "roof", None), ("left", "roof", ()), (("left",), "roof"), (("left", "roof"),), (1, 0),
                    (True, "left", "roof"), ("left", "roof", False), ("left", "roof", ""), "left roof", "", None, True,
                    False, 0, 1, 17, ["left", "roof"], ("none",), ((((((),),),),),)):
            self.assertIs(fall_row_holds(yard, row, ["right"]), False, row)

    def test_nothing_falls(self):
        for yard in (Yard(HUT), Yard(HUT, HUT.names), Yard(ARCH, ARCH.names)):
            self.assertIs(fall_row_holds(yard, ()), True)
            for row in (None, "", False, 0, [], ("",), ((),), (None,), yard.parts[:1] or ("x",)):
                self.assertIs(fall_row_holds(yard, row), False, row)


def holds(plan, parts, row, struck, props):
    """Return whether parts can fall in an order one at a time ([24])."""
    left = frozenset(parts) - frozenset(struck)
    for name in row:
        if name not in model.falling(plan, left, props):
            return False
        left = left - {name}
    return not model.falling(plan, left, props)


class TestErrors(unittest.TestCase):
    def no_part(self, yard, struck, props):
        names = []
        for act in (fallen, lambda *given: list(fall_rounds(*given)), fall_row,
                    lambda one, *given: fall_row_holds(one, (), *given),
                    lambda one, *given: fall_row_holds(one, None, *given)):
            with self.assertRaises(NoPart) as caught:
                act(yard, struck, props)
            names.append(caught.exception.name)
        self.assertEqual(len(set(names)), 1)
        return names[0]

    def test_struck_parts_come_before_props(self):
        for yard in (Yard(HUT), Yard(HUT, ["roof"]), Yard(HUT, HUT.names)):
            self.assertEqual(self.no_part(yard, ["c"], []), "c")
            self.assertEqual(self.no_part(yard, [], ["c"]), "c")
            self.assertEqual(self.no_part(yard, ["base", "d", "c"], ["b", "a"]), "d")
            self.assertEqual(self.no_part(yard, ("base", "base"), ("left", "b", "a")), "b")
            self.assertEqual(self.no_part(yard, ("",), ("none",)), "")
            self.assertEqual(self.no_part(yard, (), ("left", "none")), "none")


class TestOrder(unittest.TestCase):
    def test_what_remains_does_not_depend_on_the_order_of_the_strikes(self):
        source = random.Random("order")
        for plan, parts, struck, props in cases(80, "strikes"):
            yard = Yard(plan, parts)
            turned = source.sample(struck, len(struck))
            one_by_one = yard
            for name in turned:
                one_by_one = fallen(one_by_one, [name], props)
            self.assertEqual(one_by_one.rest_under(props), fallen(yard, struck, props))
            self.assertEqual(fallen(yard, turned, source.sample(props, len(props))), fallen(yard, struck, props))

    def test_what_remains_does_not_depend_on_the_order_in_which_props_are_removed(self):
        for plan, parts, _, props in cases(80, "props"):
            for order in permutations(sorted(set(props))):
                left = fallen(Yard(plan, parts), (), order)
                for many in range(1, len(order) + 1):
                    left = fallen(left, (), order[many:])
                self.assertEqual(left, Yard(plan, parts).rest)


class TestNothingChanges(unittest.TestCase):
    def test_arguments_are_not_changed(self):
        struck, props = ["right", "right"], ["left", "left"]
        yard = Yard(HUT, HUT.names)
        results = [(fallen(yard, struck, props), list(fall_rounds(yard, struck, props)), fall_row(yard, struck, props),
                    fall_row_holds(yard, ("roof",), struck, props)) for _ in range(2)]
        self.assertEqual((struck, props), (["right", "right"], ["left", "left"]))
        self.assertEqual(results[0], results[1])
        self.assertEqual(results[0][1:], ([("roof",)], ("roof",), True))
        kept = fallen(yard, struck, props)
        struck[:], props[:] = [], []
        self.assertEqual(kept.parts, ("base", "left"))
        self.assertEqual(yard.parts, HUT.names)

    def test_eight_parts_take_no_long_time(self):
        begun = time.perf_counter()
        for struck in "abcdefgh":
            for prop in "abcdefgh":
                yard = Yard(EIGHT, EIGHT.names)
                row = fall_row(yard, [struck, "a", "b", "c"], [prop])
                self.assertIs(fall_row_holds(yard, row, [struck, "a", "b", "c"], [prop]), True)
        self.assertLess(time.perf_counter() - begun, 5)


if __name__ == "__main__":
    unittest.main()
