import doctest
import unittest
from pathlib import Path


class Readme(unittest.TestCase):
    def test_its_examples(self):
        path = Path(__file__).resolve().parent.parent / "README.md"
        found = doctest.testfile(str(path), module_relative=False, encoding="ascii")
        self.assertGreater(found.attempted, 10)
        self.assertEqual(found.failed, 0)


if __name__ == "__main__":
    unittest.main()
