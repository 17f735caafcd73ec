"""[81]: what is a deed."""

import unittest

from everygrain.deeds import is_deed
from everygrain.series import Series
from tests.support import odd_values

LOAD = Series("load")
NO_TIMES = odd_values() + [-1, "3", [3], 3.0, LOAD]
NO_DEEDS = odd_values() + [
    "put", "clock", ("put",), ("take",), ("clock",), ("put", LOAD, 3), ("put", LOAD, 3, 5, 5), ("take", LOAD, 3),
    ("take", LOAD, 3, 5, 5), ("clock", 3, 3), ("clock", LOAD, 3), ("Put", LOAD, 3, 5), ("PUT", LOAD, 3, 5),
    ("give", LOAD, 3, 5), (b"put", LOAD, 3, 5), (0, LOAD, 3, 5), (None, LOAD, 3, 5), (["put"], LOAD, 3, 5), ("", 3),
    (True, 3), ("clock ", 3), ["put", LOAD, 3, 5], ["take", LOAD, 3, 5], ["clock", 3], {"put": 3}, (("clock", 3),),
    ("view", "v", "sum of all every 4"), ("unview", "v"), ("take", LOAD, 3, 3), ("take", LOAD, 4, 3),
    ("take", LOAD, 0, 0), ("put", "load{}", 3, 5), ("put", "load", 3, 5), ("put", [LOAD], 3, 5), ("put", None, 3, 5),
    ("take", "load{}", 3, 5), ("take", None, 3, 5), ("take", (LOAD,), 3, 5), ("put", 3, LOAD, 5), ("put", Series, 3, 5)]
NO_DEEDS = NO_DEEDS + [("put", LOAD, time, 5) for time in NO_TIMES] + [
    ("put", LOAD, 3, value) for value in NO_TIMES if value != -1] + [
    ("take", LOAD, low, 5) for low in NO_TIMES] + [("take", LOAD, 3, high) for high in NO_TIMES] + [
    ("clock", now) for now in NO_TIMES]
DEEDS = [("put", LOAD, 0, 0), ("put", LOAD, 3, -5), ("put", Series("a", {"b": "c"}), 10 ** 12, 10 ** 12),
         ("take", LOAD, 0, 1), ("take", LOAD, 3, 4), ("take", LOAD, 0, 10 ** 12), ("clock", 0), ("clock", 10 ** 12)]


class DeedsTest(unittest.TestCase):
    def test_deeds(self):
        for deed in DEEDS:
            self.assertIs(is_deed(deed), True)
            self.assertIs(is_deed(list(deed)), False)
            self.assertIs(is_deed(deed + (1,)), False)
            self.assertIs(is_deed(deed[:-1]), False)
        self.assertIs(is_deed(value=("clock", 3)), True)

    def test_no_deeds(self):
        for value in NO_DEEDS:
            self.assertIs(is_deed(value), False, value)


if __name__ == "__main__":
    unittest.main()
