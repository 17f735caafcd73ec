"""The examples of README.md."""

import os
import unittest

from tests.support import check_examples


class ReadmeTest(unittest.TestCase):
    def test_examples(self):
        path = os.path.join(os.path.dirname(os.path.dirname(os.path.abspath(__file__))), "README.md")
        with open(path, encoding="utf-8") as file:
            parts = file.read().split("```")
        examples = [part for part in parts[1::2] if ">>> " in part]
        self.assertTrue(examples)
        for example in examples:
            check_examples(self, example)


if __name__ == "__main__":
    unittest.main()
