"""Promise [12]."""

import unittest

from nestprops import errors
from nestprops.errors import Falls, NoDeed, NoPart, NoPlan, NoProp, NoRow, NoText, OtherPlan, YardError

VALUES = (0, -1, "", "x", None, True, (), ("a", ("b", 1)), [1, [2]], {"k": 1}, object())


class TestErrors(unittest.TestCase):
    def test_base_derives_directly_from_value_error(self):
        self.assertEqual(YardError.__bases__, (ValueError,))

    def test_subclasses_derive_directly_from_the_base(self):
        for kind in (NoText, NoPlan, OtherPlan, Falls, NoDeed, NoProp, NoRow):
            self.assertEqual(kind.__bases__, (YardError,), kind)

    def test_no_part_derives_directly_from_key_error(self):
        self.assertEqual(NoPart.__bases__, (KeyError,))
        self.assertFalse(issubclass(NoPart, YardError))

    def test_base_has_no_other_subclasses(self):
        own = [kind for kind in YardError.__subclasses__() if kind.__module__ == errors.__name__]
        self.assertEqual({kind.__name__ for kind in own},
                         {"NoText", "NoPlan", "OtherPlan", "Falls", "NoDeed", "NoProp", "NoRow"})

    def test_attributes_are_the_arguments(self):
        for value in VALUES:
            self.assertIs(NoText(value).at, value)
            self.assertIs(NoDeed(value).at, value)
            self.assertIs(Falls(value).names, value)
            self.assertIs(NoPart(value).name, value)
            for other in VALUES:
                error = NoPlan(value, other)
                self.assertIs(error.word, value)
                self.assertIs(error.at, other)

    def test_arguments_by_name(self):
        self.assertEqual(NoText(at=3).at, 3)
        self.assertEqual(NoDeed(at=4).at, 4)
        self.assertEqual(Falls(names=("a",)).names, ("a",))
        self.assertEqual(NoPart(name="a").name, "a")
        error = NoPlan(at=2, word="rule")
        self.assertEqual((error.word, error.at), ("rule", 2))

    def test_errors_without_arguments(self):
        for kind in (OtherPlan, NoProp, NoRow):
            with self.assertRaises(YardError) as caught:
                raise kind()
            self.assertIsInstance(caught.exception, kind)

    def test_raised_errors_keep_their_attributes(self):
        with self.assertRaises(ValueError) as caught:
            raise NoPlan("name", 1)
        self.assertEqual((caught.exception.word, caught.exception.at), ("name", 1))
        with self.assertRaises(KeyError) as caught:
            raise NoPart("x")
        self.assertEqual(caught.exception.name, "x")


if __name__ == "__main__":
    unittest.main()
