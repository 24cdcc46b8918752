"""The examples in README.md."""

import doctest
import unittest
from pathlib import Path

README = Path(__file__).resolve().parent.parent / "README.md"


class TestReadme(unittest.TestCase):
    def test_examples(self):
        result = doctest.testfile(str(README), module_relative=False)
        self.assertGreater(result.attempted, 10)
        self.assertEqual(result.failed, 0)


if __name__ == "__main__":
    unittest.main()
