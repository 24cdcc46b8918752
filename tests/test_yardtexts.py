"""The part of [20] that repr needs: show_yard."""

import unittest

from nestprops.yards import Yard
from nestprops.yardtexts import show_yard
from tests.model import EIGHT, HUT


class TestShowYard(unittest.TestCase):
    def test_names_in_plan_order(self):
        self.assertEqual(show_yard(Yard(HUT, ["roof", "base"])), "base roof")
        self.assertEqual(show_yard(yard=Yard(HUT, ["left"])), "left")
        self.assertEqual(show_yard(Yard(EIGHT, EIGHT.names)), "h g f e d c b a")

    def test_the_empty_yard(self):
        self.assertEqual(show_yard(Yard(HUT)), "none")


if __name__ == "__main__":
    unittest.main()
