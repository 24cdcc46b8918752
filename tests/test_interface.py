"""The part "The interface" of the document, for the modules that have landed."""

import importlib
import inspect
import unittest

# Module, then each class or function with its parameters (None: the class has no constructor there).
PLAIN = {
    "errors": {
        "YardError": None, "NoText": "at", "NoPlan": "word at", "OtherPlan": None, "Falls": "names",
        "NoDeed": "at", "NoProp": None, "NoRow": None, "NoPart": "name",
    },
    "rules": {
        "Rule": None, "Needs": "name", "All": "*rules", "Some": "*rules", "AtLeast": "count *rules",
        "Always": "", "Never": "",
    },
    "ruletexts": {"show_rule": "rule"},
    "plans": {"Plan": "rows"},
}

METHODS = {
    ("rules", "Rule"): {
        "of_sets": "sets", "read": "text", "given": "name", "lacking": "name", "__call__": "parts",
        "__and__": "other", "__or__": "other", "__eq__": "other", "__bool__": "", "__repr__": "",
    },
    ("plans", "Plan"): {
        "of": "**rules", "read": "text", "rule": "name", "__len__": "", "__contains__": "name",
        "__eq__": "other", "__repr__": "",
    },
}

CLASS_METHODS = {("rules", "Rule"): ("of_sets", "read"), ("plans", "Plan"): ("of", "read")}


def parameters_of(function):
    """Return the parameters of a function as a text, without the object of a method."""
    marks = {inspect.Parameter.VAR_POSITIONAL: "*", inspect.Parameter.VAR_KEYWORD: "**"}
    found = inspect.signature(function).parameters.values()
    return " ".join(marks.get(one.kind, "") + one.name for one in found if one.name != "self")


class TestInterface(unittest.TestCase):
    def test_everything_is_defined_in_its_module(self):
        for name, members in PLAIN.items():
            module = importlib.import_module(f"nestprops.{name}")
            for member, parameters in members.items():
                defined = getattr(module, member)
                self.assertEqual(defined.__module__, module.__name__, member)
                if parameters is not None:
                    self.assertEqual(parameters_of(defined), parameters, member)

    def test_methods_stand_in_their_class(self):
        for (module, name), methods in METHODS.items():
            owner = getattr(importlib.import_module(f"nestprops.{module}"), name)
            for method, parameters in methods.items():
                self.assertIn(method, owner.__dict__, name)
                self.assertEqual(parameters_of(getattr(owner, method)), parameters, method)

    def test_class_methods_and_properties(self):
        for (module, name), methods in CLASS_METHODS.items():
            owner = getattr(importlib.import_module(f"nestprops.{module}"), name)
            for method in methods:
                self.assertIsInstance(owner.__dict__[method], classmethod)
        rule = importlib.import_module("nestprops.rules").Rule
        self.assertIsInstance(rule.__dict__["turned"], property)

    def test_members_of_rules_are_those_of_the_base(self):
        rules = importlib.import_module("nestprops.rules")
        for name in PLAIN["rules"]:
            owner = getattr(rules, name)
            for method in METHODS["rules", "Rule"]:
                self.assertEqual(getattr(owner, method).__qualname__, f"Rule.{method}")

    def test_listed_attributes_are_set_when_an_object_is_created(self):
        rules = importlib.import_module("nestprops.rules")
        plans = importlib.import_module("nestprops.plans")
        a = rules.Needs("a")
        for rule in (a, rules.All(a), rules.Some(a), rules.AtLeast(1, a), rules.Always(), rules.Never(),
                     rules.Rule.of_sets([]), rules.Rule.read("a"), a & a, a | a, a.turned, a.given("a")):
            self.assertIn("least", vars(rule))
            self.assertIn("names", vars(rule))
        self.assertIn("names", vars(plans.Plan([("a", rules.Always())])))


if __name__ == "__main__":
    unittest.main()
