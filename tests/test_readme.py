"""The examples of README.md tell what the program answers."""

import doctest
import os
import unittest

README = os.path.join(os.path.dirname(os.path.dirname(os.path.abspath(__file__))), "README.md")


class TestReadme(unittest.TestCase):
    def test_examples(self):
        found = doctest.testfile(README, module_relative=False, optionflags=doctest.IGNORE_EXCEPTION_DETAIL)
        self.assertGreater(found.attempted, 50)
        self.assertEqual(found.failed, 0)


if __name__ == "__main__":
    unittest.main()
