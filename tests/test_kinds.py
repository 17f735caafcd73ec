"""[2], [3]: integers, counts, names, words and lists."""

import unittest

from everygrain.kinds import is_count, is_file_name, is_integer, is_list, is_name, is_positive, is_word
from tests.support import odd_values


class KindsTest(unittest.TestCase):
    def test_integers_and_counts(self):
        for value in (0, 1, 10 ** 12, 10 ** 300):
            self.assertIs(is_integer(value), True)
            self.assertIs(is_count(value), True)
            self.assertIs(is_integer(-value), True)
            self.assertIs(is_count(-1 - value), False)
            self.assertIs(is_positive(value), value != 0)
            self.assertIs(is_positive(-value), False)
        for value in odd_values(int):
            self.assertIs(is_integer(value), False)
            self.assertIs(is_count(value), False)
            self.assertIs(is_positive(value), False)

    def test_names_words_and_file_names(self):
        told = {"a": (True, True, True), "a" * 24: (True, True, True), "a" * 25: (False, False, False),
                "": (False, False, False), "9": (False, True, True), "-": (False, False, True),
                "-a": (False, False, True), "a-9-": (True, True, True), "9-": (False, True, True),
                "A": (False, False, False), "aB": (False, False, False), "a b": (False, False, False),
                "a_b": (False, False, False), "a\n": (False, False, False), "\u00e4": (False, False, False),
                "a\u0661": (False, False, False), "\uff41": (False, False, False), " a": (False, False, False),
                "z0": (True, True, True), "ab" * 12: (True, True, True), "9" * 25: (False, False, False)}
        for text, wanted in told.items():
            self.assertEqual((is_name(text), is_word(text), is_file_name(text)), wanted, text)
        for value in odd_values(str):
            self.assertEqual((is_name(value), is_word(value), is_file_name(value)), (False, False, False))
        self.assertEqual((is_name(["a"]), is_word(("a",)), is_file_name({"a": 1})), (False, False, False))

    def test_lists(self):
        for value in ([], (), [1], (1,)):
            self.assertIs(is_list(value), True)
        for value in odd_values(list, tuple):
            self.assertIs(is_list(value), False)


if __name__ == "__main__":
    unittest.main()
