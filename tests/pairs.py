"""The errors that all functions of sections 11 to 13 with two yards raise first."""

from nestprops.errors import Falls, OtherPlan
from nestprops.plans import Plan
from nestprops.rules import Always
from nestprops.yards import Yard
from tests.model import ARCH, HUT

FALLS = [
    (Yard(ARCH, ["z", "x"]), Yard(ARCH), ("x", "z")), (Yard(ARCH), Yard(ARCH, ["y"]), ("y",)),
    (Yard(ARCH, ["y"]), Yard(ARCH, ["z", "x"]), ("y",)),
    (Yard(HUT), Yard(HUT, ["roof", "base", "left"]), ("left", "roof")),
]


class PairErrors:
    """For a test case with a method `calls` that goes over calls with two yards, some with wrong tables, too."""

    def test_other_plan(self):
        same_names = Plan([(name, Always()) for name in ARCH.names])
        turned = Plan([(name, ARCH.rule(name)) for name in reversed(ARCH.names)])
        for plan in (HUT, same_names, turned):
            for yard in (Yard(ARCH), Yard(ARCH, ["x"])):
                for call in self.calls(yard, Yard(plan, plan.names[1:2])):
                    self.assertRaises(OtherPlan, call)

    def test_falls(self):
        for yard, other, names in FALLS:
            for call in self.calls(yard, other):
                with self.assertRaises(Falls) as caught:
                    call()
                self.assertEqual(caught.exception.names, names)
