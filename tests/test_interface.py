"""The part "The interface" of the document, for the modules that have landed."""

import importlib
import inspect
import unittest

# Module, then each class or function with its parameters (None: the class has no constructor there).
PLAIN = {
    "errors": {
        "YardError": None, "NoText": "at", "NoPlan": "word at", "OtherPlan": None, "Falls": "names",
        "NoDeed": "at", "NoProp": None, "NoRow": None, "NoPart": "name",
    },
    "rules": {
        "Rule": None, "Needs": "name", "All": "*rules", "Some": "*rules", "AtLeast": "count *rules",
        "Always": "", "Never": "",
    },
    "ruletexts": {"show_rule": "rule"},
    "plans": {"Plan": "rows"},
    "yards": {"Yard": "plan parts=()", "all_yards": "plan * standing=True"},
    "yardtexts": {"show_yard": "yard"},
    "falls": {
        "fallen": "yard struck=() props=()", "fall_rounds": "yard struck=() props=()",
        "fall_row": "yard struck=() props=()", "fall_row_holds": "yard row struck=() props=()",
    },
    "scripts": {
        "run": "yard deeds", "depth_of": "deeds", "reverse_of": "deeds", "script_holds": "yard goal depth deeds",
    },
    "growth": {
        "grown": "yard * depth=0 props=()", "is_full": "yard * depth=0", "full_yards": "plan * depth=0",
        "join_of": "yard other * depth=0", "meet_of": "yard other",
    },
    "joined": {
        "are_joined": "yard other depth", "depth_between": "yard other", "script_between": "yard other depth",
        "bar_table": "yard other depth", "bar_holds": "yard other depth table",
    },
    "lots": {"lot_of": "yard depth", "lots": "plan depth", "lot_tree": "plan", "depth_text": "yards"},
    "fewest": {
        "fewest_deeds": "yard other depth", "fewest_script": "yard other depth", "distance_table": "yard other depth",
        "distances_hold": "yard other depth number table",
    },
    "sites": {"Site": "yard"},
    "desk": {"Desk": ""},
    "plantexts": {"show_plan": "plan"},
    "strikes": {"least_stands": "yard name", "least_strikes": "yard name"},
}

METHODS = {
    ("rules", "Rule"): {
        "of_sets": "sets", "read": "text", "given": "name", "lacking": "name", "__call__": "parts",
        "__and__": "other", "__or__": "other", "__eq__": "other", "__bool__": "", "__repr__": "",
    },
    ("plans", "Plan"): {
        "of": "**rules", "read": "text", "rule": "name", "__len__": "", "__contains__": "name",
        "__eq__": "other", "__repr__": "",
    },
    ("yards", "Yard"): {
        "read": "plan text", "supported": "props=()", "stands_under": "props", "rest_under": "props",
        "__or__": "other", "__and__": "other", "__sub__": "other", "__eq__": "other", "__len__": "",
        "__contains__": "name", "__bool__": "", "__repr__": "",
    },
    ("sites", "Site"): {
        "put": "name", "take": "name", "prop": "name", "strike": "name", "unprop": "", "within": "name deeds",
        "trial": "deeds", "undo": "", "log": "", "copied": "", "__len__": "", "__eq__": "other", "__repr__": "",
    },
    ("desk", "Desk"): {"say": "row", "__len__": ""},
}

CLASS_METHODS = {("rules", "Rule"): ("of_sets", "read"), ("plans", "Plan"): ("of", "read"),
                 ("yards", "Yard"): ("read",)}
PROPERTIES = {
    ("rules", "Rule"): ("turned",), ("yards", "Yard"): ("stands", "rest"), ("sites", "Site"): ("yard", "props"),
}


def parameters_of(function):
    """Return the parameters of a function as a text, without the object of a method; a lone star is a word."""
    marks = {inspect.Parameter.VAR_POSITIONAL: "*", inspect.Parameter.VAR_KEYWORD: "**"}
    words = []
    for one in inspect.signature(function).parameters.values():
        if one.kind == inspect.Parameter.KEYWORD_ONLY and "*" not in words:
            words.append("*")
        default = "" if one.default is inspect.Parameter.empty else f"={one.default!r}"
        words.append(marks.get(one.kind, "") + one.name + default)
    return " ".join(word for word in words if word != "self")


class TestInterface(unittest.TestCase):
    def test_everything_is_defined_in_its_module(self):
        for name, members in PLAIN.items():
            module = importlib.import_module(f"nestprops.{name}")
            for member, parameters in members.items():
                defined = getattr(module, member)
                self.assertEqual(defined.__module__, module.__name__, member)
                if parameters is not None:
                    self.assertEqual(parameters_of(defined), parameters, member)

    def test_methods_stand_in_their_class(self):
        for (module, name), methods in METHODS.items():
            owner = getattr(importlib.import_module(f"nestprops.{module}"), name)
            for method, parameters in methods.items():
                self.assertIn(method, owner.__dict__, name)
                self.assertEqual(parameters_of(getattr(owner, method)), parameters, method)

    def test_class_methods_and_properties(self):
        for (module, name), methods in CLASS_METHODS.items():
            owner = getattr(importlib.import_module(f"nestprops.{module}"), name)
            for method in methods:
                self.assertIsInstance(owner.__dict__[method], classmethod)
        for (module, name), properties in PROPERTIES.items():
            owner = getattr(importlib.import_module(f"nestprops.{module}"), name)
            for word in properties:
                self.assertIsInstance(owner.__dict__[word], property)

    def test_members_of_rules_are_those_of_the_base(self):
        rules = importlib.import_module("nestprops.rules")
        for name in PLAIN["rules"]:
            owner = getattr(rules, name)
            for method in METHODS["rules", "Rule"]:
                self.assertEqual(getattr(owner, method).__qualname__, f"Rule.{method}")

    def test_listed_attributes_are_set_when_an_object_is_created(self):
        rules = importlib.import_module("nestprops.rules")
        plans = importlib.import_module("nestprops.plans")
        a = rules.Needs("a")
        for rule in (a, rules.All(a), rules.Some(a), rules.AtLeast(1, a), rules.Always(), rules.Never(),
                     rules.Rule.of_sets([]), rules.Rule.read("a"), a & a, a | a, a.turned, a.given("a")):
            self.assertIn("least", vars(rule))
            self.assertIn("names", vars(rule))
        plan = plans.Plan([("a", rules.Always())])
        self.assertIn("names", vars(plan))
        yards = importlib.import_module("nestprops.yards")
        yard = yards.Yard(plan, ["a"])
        for one in (yard, yard.rest, yard | yard, yard.rest_under([]), yards.Yard.read(plan, "a"),
                    *yards.all_yards(plan)):
            self.assertIn("plan", vars(one))
            self.assertIn("parts", vars(one))


if __name__ == "__main__":
    unittest.main()
