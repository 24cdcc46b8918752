"""Promises [2] and [11] over the whole program: each function of the interface, asked in several ways."""

import copy
import random
import unittest
from itertools import permutations

from nestprops import errors
from nestprops.desk import Desk
from nestprops.falls import fall_rounds, fall_row, fall_row_holds, fallen
from nestprops.fewest import distance_table, distances_hold, fewest_deeds, fewest_script
from nestprops.growth import full_yards, grown, is_full, join_of, meet_of
from nestprops.joined import are_joined, bar_holds, bar_table, depth_between, script_between
from nestprops.lots import depth_text, lot_of, lot_tree, lots
from nestprops.plans import Plan
from nestprops.plantexts import show_plan
from nestprops.rules import All, Always, AtLeast, Needs, Never, Rule, Some
from nestprops.ruletexts import show_rule
from nestprops.scripts import depth_of, reverse_of, run, script_holds
from nestprops.sites import Site
from nestprops.strikes import least_stands, least_strikes
from nestprops.yards import Yard, all_yards
from nestprops.yardtexts import show_yard
from tests import model
from tests.model import ARCH, HUT
from tests.test_interface import PLAIN

RULE = AtLeast(2, Needs("a"), Needs("b"), Needs("c")) | Needs("d")
EMPTY, FULL = Yard(ARCH), Yard(ARCH, ARCH.names)
HOUSE, BASE = Yard(HUT, HUT.names), Yard(HUT, ["base"])
LOOSE = Yard(HUT, ["roof", "base", "left"])
UP = [("prop", "x"), ("put", "x"), ("prop", "y"), ("put", "y"), ("put", "z"), ("unprop",), ("unprop",)]
BAR = (((), ()), (("x",), ("x",)), (("y",), ("y",)), (("z",), ("z",)))

# Each function and class of the interface with arguments under their names, in order.
CASES = [
    (errors.YardError, {}), (errors.NoText, {"at": 3}), (errors.NoPlan, {"word": "rule", "at": 2}),
    (errors.OtherPlan, {}),
    (errors.Falls, {"names": ("x",)}), (errors.NoDeed, {"at": 1}), (errors.NoProp, {}), (errors.NoRow, {}),
    (errors.NoPart, {"name": "q"}),
    (Needs, {"name": "a"}), (Always, {}), (Never, {}),
    (show_rule, {"rule": RULE}),
    (Plan, {"rows": [("a", Always()), ("b", Needs("a"))]}), (show_plan, {"plan": HUT}),
    (Yard, {"plan": HUT, "parts": ["roof", "base", "base"]}), (all_yards, {"plan": HUT, "standing": False}),
    (show_yard, {"yard": HOUSE}),
    (fallen, {"yard": HOUSE, "struck": ["left", "left"], "props": ["roof"]}),
    (fall_rounds, {"yard": HOUSE, "struck": ["base"], "props": ["roof"]}),
    (fall_row, {"yard": LOOSE, "struck": ["base"], "props": ["roof"]}),
    (fall_row_holds, {"yard": LOOSE, "row": ("left",), "struck": ["base"], "props": ["roof"]}),
    (least_stands, {"yard": HOUSE, "name": "roof"}), (least_strikes, {"yard": HOUSE, "name": "roof"}),
    (run, {"yard": EMPTY, "deeds": list(UP)}), (depth_of, {"deeds": list(UP)}), (reverse_of, {"deeds": list(UP)}),
    (script_holds, {"yard": EMPTY, "goal": FULL, "depth": 2, "deeds": tuple(UP)}),
    (grown, {"yard": LOOSE, "depth": 1, "props": ["roof"]}), (is_full, {"yard": HOUSE, "depth": 1}),
    (full_yards, {"plan": HUT, "depth": 0}),
    (join_of, {"yard": BASE, "other": HOUSE, "depth": 1}), (meet_of, {"yard": BASE, "other": LOOSE}),
    (are_joined, {"yard": EMPTY, "other": FULL, "depth": 1}), (depth_between, {"yard": EMPTY, "other": FULL}),
    (script_between, {"yard": EMPTY, "other": FULL, "depth": 3}),
    (bar_table, {"yard": EMPTY, "other": FULL, "depth": 1}),
    (bar_holds, {"yard": EMPTY, "other": FULL, "depth": 1, "table": BAR}),
    (lot_of, {"yard": BASE, "depth": 0}), (lots, {"plan": HUT, "depth": 0}), (lot_tree, {"plan": ARCH}),
    (depth_text, {"yards": [BASE, HOUSE]}),
    (fewest_deeds, {"yard": EMPTY, "other": FULL, "depth": 2}),
    (fewest_script, {"yard": EMPTY, "other": FULL, "depth": 2}),
    (distance_table, {"yard": EMPTY, "other": FULL, "depth": 2}),
    (distances_hold, {"yard": EMPTY, "other": EMPTY, "depth": 0, "number": 0, "table": (((), (), 0),)}),
    (Site, {"yard": BASE}), (Desk, {}),
]

METHODS = [
    (Rule.of_sets, {"sets": [["a", "b"], ["b"]]}), (Rule.read, {"text": "1 of ( a , never )"}),
    (RULE.given, {"name": "a"}),
    (RULE.lacking, {"name": "d"}), (RULE, {"parts": ["a", "c"]}),
    (Plan.of, {"b": Always(), "a": Needs("b")}), (Plan.read, {"text": "a : always"}), (HUT.rule, {"name": "roof"}),
    (Yard.read, {"plan": HUT, "text": "roof base"}), (LOOSE.supported, {"props": ["left"]}),
    (LOOSE.stands_under, {"props": ["left", "roof"]}),
    (LOOSE.rest_under, {"props": ["left"]}),
    (Site(HOUSE).trial, {"deeds": [("strike", "roof")]}), (Site(HOUSE).log, {}), (Site(HOUSE).copied, {}),
]

# The parameters that are passed by name alone.
NAMED = {
    "all_yards": ("standing",), "grown": ("depth", "props"), "is_full": ("depth",), "full_yards": ("depth",),
    "join_of": ("depth",),
    "of": ("a", "b"),
}

# Methods that change their site; it is a new one for each call.
DEEDS = [
    ("put", {"name": "x"}), ("take", {"name": "x"}), ("prop", {"name": "y"}), ("strike", {"name": "x"}),
    ("unprop", {}), ("undo", {}),
    ("within", {"name": "y", "deeds": [("put", "y"), ("put", "z")]}),
]


def site_for(word):
    """Return a site in which the methods of DEEDS can be called."""
    site = Site(EMPTY)
    site.prop("x")
    if word != "put":
        site.put("x")
    return site


def kept(value):
    """Return something that can be compared: of errors and desks what they keep, of an iteration its items."""
    if isinstance(value, (errors.YardError, errors.NoPart)):
        return type(value), vars(value)
    if isinstance(value, Desk):
        return Desk, len(value)
    if not isinstance(value, (str, tuple, list)) and hasattr(value, "__iter__"):
        return [kept(item) for item in value]
    return value


def called(function, arguments, backwards):
    """Call a function with its arguments by position as far as it can be, or all by name, the last one first."""
    if backwards:
        return kept(function(**dict(reversed(list(arguments.items())))))
    named = NAMED.get(getattr(function, "__name__", ""), ())
    placed = [value for name, value in arguments.items() if name not in named]
    return kept(function(*placed, **{name: arguments[name] for name in arguments if name in named}))


def is_plain(value):
    """Return whether a value is of the kinds that [2] names."""
    if type(value) is tuple:
        return all(is_plain(item) for item in value)
    return value is None or type(value) in (str, int, bool, Rule, Plan, Yard, Site)


class TestEachFunction(unittest.TestCase):
    def test_the_cases_are_the_whole_interface(self):
        found = {(case.__module__, case.__name__) for case, _ in CASES}
        listed = {(f"nestprops.{module}", name) for module, members in PLAIN.items() for name in members}
        # These take rules, as many as there are, or are not called themselves.
        self.assertEqual(listed - found, {("nestprops.rules", name) for name in ("Rule", "All", "Some", "AtLeast")})
        self.assertEqual(found - listed, set())

    def test_by_position_and_by_name_in_any_order(self):
        for function, arguments in [*CASES, *METHODS]:
            if function != Plan.of:
                self.assertEqual(called(function, arguments, True), called(function, arguments, False), function)

    def test_methods_that_change_a_site(self):
        for word, arguments in DEEDS:
            sites = [site_for(word), site_for(word)]
            results = [called(getattr(sites[0], word), arguments, True), called(getattr(sites[1], word), arguments, False)]
            self.assertEqual(results[0], results[1], word)
            self.assertEqual(sites[0].log(), sites[1].log(), word)
            self.assertTrue(sites[0] == sites[1])
            self.assertNotEqual(sites[0].log(), site_for(word).log())
            self.assertTrue(is_plain(results[0]))

    def test_arguments_are_not_changed(self):
        for function, arguments in [*CASES, *METHODS]:
            before = copy.deepcopy(arguments)
            called(function, arguments, False)
            self.assertEqual(arguments, before, function)
        for word, arguments in DEEDS:
            before = copy.deepcopy(arguments)
            called(getattr(site_for(word), word), arguments, False)
            self.assertEqual(arguments, before)

    def test_the_same_call_returns_an_equal_result_whatever_came_between(self):
        cases = [*CASES, *METHODS]
        before = [called(function, arguments, False) for function, arguments in cases]
        source = random.Random("between")
        for _ in range(3):
            order = source.sample(range(len(cases)), len(cases))
            for at in order:
                self.assertEqual(called(*cases[at], source.choice([True, False]) and cases[at][0] != Plan.of),
                                 before[at], cases[at])

    def test_kinds_of_results(self):
        plain = [function for function, _ in CASES if function not in (all_yards, fall_rounds, full_yards, lots)]
        for function, arguments in CASES:
            if function in plain and not isinstance(function, type):
                self.assertTrue(is_plain(function(**arguments)), function)
        for function in (all_yards, fall_rounds, full_yards, lots):
            for item in function(**dict(CASES)[function]):
                self.assertTrue(is_plain(item), function)

    def test_iterations_may_be_left_unfinished_and_go_on_by_turns(self):
        for function in (all_yards, fall_rounds, full_yards, lots):
            arguments = dict(CASES)[function]
            expected = list(function(**arguments))
            self.assertGreater(len(expected), 0)
            first, second = iter(function(**arguments)), iter(function(**arguments))
            begun = [next(first)]
            turns = [next(second)]
            for item in first:
                begun.append(item)
                turns.extend([item for item in [next(second, None)] if item is not None])
            self.assertEqual((begun, turns), (expected, expected))
            next(iter(function(**arguments)))
            self.assertEqual(list(function(**arguments)), expected)

    def test_parameters_with_a_default_may_be_omitted(self):
        self.assertEqual(Yard(HUT), Yard(HUT, ()))
        self.assertEqual(list(all_yards(HUT)), list(all_yards(HUT, standing=True)))
        self.assertEqual(LOOSE.supported(), LOOSE.supported(()))
        for function, holds in ((fallen, False), (fall_row, False), (fall_rounds, False), (fall_row_holds, True)):
            given = {"yard": LOOSE, **({"row": ("left", "roof")} if holds else {})}
            result = kept(function(**given))
            for more in ({"struck": ()}, {"props": []}, {"struck": [], "props": ()}):
                self.assertEqual(kept(function(**given, **more)), result)
        self.assertTrue(fall_row_holds(LOOSE, ("left", "roof"), props=["base"]))
        self.assertEqual(fallen(LOOSE, props=["left"]), Yard(HUT, ["base", "left"]))
        self.assertEqual(grown(LOOSE), grown(LOOSE, depth=0, props=()))
        self.assertEqual(grown(LOOSE, depth=1), grown(LOOSE, depth=1, props=[]))
        self.assertEqual(grown(LOOSE, props=["left"]), grown(LOOSE, depth=0, props=["left"]))
        self.assertIs(is_full(BASE), is_full(BASE, depth=0))
        self.assertEqual(list(full_yards(HUT)), list(full_yards(HUT, depth=0)))
        self.assertEqual(join_of(BASE, LOOSE), join_of(BASE, LOOSE, depth=0))

    def test_keyword_parameters_are_not_taken_by_position(self):
        for function, arguments in ((all_yards, (HUT, True)), (grown, (BASE, 0)), (is_full, (BASE, 0)),
                                    (full_yards, (HUT, 0)),
                                    (join_of, (BASE, BASE, 0))):
            self.assertRaises(TypeError, lambda: list(function(*arguments)))

    def test_later_changes_to_an_argument_have_no_effect(self):
        parts, deeds, yards = ["base"], [("prop", "left")], [BASE, HOUSE]
        yard, site = Yard(HUT, parts), Site(Yard(HUT))
        rounds = fall_rounds(HOUSE, ["base"])
        site.within("roof", deeds)
        text = depth_text(yards)
        for one in (parts, deeds, yards):
            one.clear()
        self.assertEqual(yard, BASE)
        self.assertEqual(site.log(),
                         [("prop", "roof"), ("prop", "left"), ("unprop", "left", ()), ("unprop", "roof", ())])
        self.assertEqual(text, depth_text([BASE, HOUSE]))
        self.assertEqual(list(rounds), list(fall_rounds(HOUSE, ["base"])))

    def test_rules_with_many_arguments(self):
        rules = (Needs("a"), All(Needs("b"), Needs("c")))
        self.assertEqual(AtLeast(1, *rules), Some(*rules))
        self.assertEqual(AtLeast(2, *rules), All(*rules))
        self.assertEqual(AtLeast(count=0), Always())


class TestOrder(unittest.TestCase):
    """What [11] says of falls: the order of strikes and of unprops makes no difference."""

    def test_strikes_in_any_order(self):
        source = random.Random("strikes")
        for plan in model.random_plans(30, "any order", most=5):
            yard = source.choice(list(all_yards(plan)))
            struck = source.sample(plan.names, min(3, len(plan)))
            for order in permutations(struck):
                site = Site(yard)
                for name in order:
                    site.strike(name)
                self.assertEqual(site.yard, fallen(yard, struck))

    def test_props_removed_in_any_order(self):
        source = random.Random("props")
        for plan in model.knotted_plans(30, "any order", most=5):
            props = source.sample(plan.names, 3)
            for order in permutations(props):
                site = Site(Yard(plan))
                for name in order:
                    site.prop(name)
                for name in plan.names * len(plan):
                    if name not in site.yard and name in site.yard.supported(site.props):
                        site.put(name)
                while site.props:
                    site.unprop()
                self.assertEqual(site.yard, grown(Yard(plan), props=props).rest)


if __name__ == "__main__":
    unittest.main()
