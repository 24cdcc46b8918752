"""Promise [18]: show_plan and Plan.read."""

import unittest

from nestprops.plans import Plan
from nestprops.plantexts import show_plan
from nestprops.rules import All, Always, AtLeast, Needs, Never, Rule, Some
from tests import model
from tests.model import ARCH, EIGHT, HUT


class TestShowPlan(unittest.TestCase):
    def test_document_examples(self):
        self.assertEqual(show_plan(ARCH), "x : all ( y , z )\ny : all ( x , z )\nz : all ( x , y )")
        self.assertEqual(show_plan(plan=HUT), "base : always\nleft : all ( base , right )\n"
                         "right : all ( base , left )\nroof : all ( left , right )")

    def test_each_form(self):
        plan = Plan([("d", Some(Needs("c"), All(Needs("b"), Needs("a")))), ("c", Needs("d")), ("b", Never()),
                     ("a", Always())])
        self.assertEqual(show_plan(plan), "d : any ( c , all ( a , b ) )\nc : d\nb : never\na : always")

    def test_one_row(self):
        self.assertEqual(show_plan(Plan([("a", Always())])), "a : always")
        self.assertEqual(show_plan(Plan.of(abcdef=All())), "abcdef : always")

    def test_rules_are_shown_by_their_least_sets(self):
        plan = Plan.of(a=AtLeast(2, Needs("b"), Needs("c"), Needs("b")), b=Rule.of_sets([("c",), ("c", "a")]), c=Some())
        self.assertEqual(show_plan(plan), "a : b\nb : c\nc : never")
        self.assertEqual(show_plan(Plan.read("a : 2 of ( b , c , c )\nb : 1 of ( never )\nc : all ( always )")),
                         "a : c\nb : never\nc : always")

    def test_what_is_shown_can_be_read(self):
        plans = [ARCH, HUT, EIGHT, *model.random_plans(60, "shown"), *model.knotted_plans(10, "shown", 8, 8)]
        for plan in [*plans, *[model.ring("hgfedcba", count) for count in range(8)]]:
            text = show_plan(plan)
            self.assertEqual(Plan.read(text), plan)
            self.assertEqual(show_plan(Plan.read(text)), text)
            self.assertIs(type(text), str)

    def test_eight_parts(self):
        rows = show_plan(EIGHT).split("\n")
        self.assertEqual([row.split(" ")[:2] for row in rows], [[name, ":"] for name in EIGHT.names])
        self.assertTrue(rows[7].startswith("a : any ( all ( b , c , d , e ) , all ( b , c , d , f ) , "))
        self.assertEqual(rows[7].count("all"), 35)


if __name__ == "__main__":
    unittest.main()
