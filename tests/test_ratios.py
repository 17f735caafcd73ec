"""[56]: fractions."""

import fractions
import unittest

from everygrain.errors import InvalidFraction
from everygrain.ratios import by, compared, fraction, is_fraction, minus, plus, times
from tests.support import Draw, check_error, check_examples, odd_values

NO_FRACTIONS = odd_values() + [(1, 0), (0, 0), (1, -2), (2, 4), (0, 2), (0, -1), (-3, 9), (1,), (1, 2, 3), [1, 2],
                               (True, 2), (1, True), (1.0, 2), (1, 2.0), ("1", "2"), (None, 1), ((1, 2), 1), (6, 6)]
FIVE = (plus, minus, times, by, compared)


class ExamplesTest(unittest.TestCase):
    def test_examples_of_the_interface(self):
        check_examples(self, r"""
>>> from everygrain.ratios import by, compared, fraction, is_fraction, minus, plus, times
>>> [fraction(6, -4), fraction(0, 7), is_fraction((2, 4)), plus((1, 2), (1, 6)), minus((1, 2), (1, 2)), times((-3, 2), (4, 9))]
[(-3, 2), (0, 1), False, (2, 3), (0, 1), (-2, 3)]
>>> [by((1, 2), (-3, 4)), by((1, 2), (0, 1)), compared((1, 3), (1, 2)), compared((-1, 3), (-1, 2))]
[(-2, 3), None, -1, 1]
>>> times((1, 2), (2, 4))
raises InvalidFraction((2, 4))
""")


def pair(number):
    return number.numerator, number.denominator


class FractionsTest(unittest.TestCase):
    def test_is_fraction(self):
        for value in ((0, 1), (1, 1), (-1, 1), (5, 3), (-5, 3), (10 ** 50 + 1, 10 ** 50), (2, 1), (1, 10 ** 12)):
            self.assertIs(is_fraction(value), True)
        for value in NO_FRACTIONS:
            self.assertIs(is_fraction(value), False)
        self.assertIs(is_fraction(value=(1, 2)), True)

    def test_fraction(self):
        for n in range(-30, 31):
            for d in list(range(-12, 0)) + list(range(1, 13)):
                self.assertEqual(fraction(n, d), pair(fractions.Fraction(n, d)))
        self.assertEqual(fraction(d=-10 ** 40, n=10 ** 30), (-1, 10 ** 10))
        for n, d in ((1, 0), (0, 0), (True, 2), (1, True), (1.0, 2), (1, 2.0), (None, 1), (1, None), ("1", 2), ((1, 2), 1),
                     (1, []), (True, 0)):
            check_error(self, InvalidFraction((n, d)), fraction, n, d)

    def test_reckoning(self):
        draw = Draw(56)
        numbers = [fractions.Fraction(n, d) for n in range(-4, 5) for d in range(1, 5)]
        numbers += [fractions.Fraction(draw.within(-10 ** 30, 10 ** 30), draw.within(1, 10 ** 20)) for _ in range(10)]
        for one in numbers:
            for other in numbers:
                told = plus(pair(one), pair(other)), minus(pair(one), pair(other)), times(pair(one), pair(other))
                self.assertEqual(told, (pair(one + other), pair(one - other), pair(one * other)))
                self.assertTrue(all(is_fraction(value) for value in told))
                quotient = None if other == 0 else pair(one / other)
                self.assertEqual(by(pair(one), pair(other)), quotient)
                self.assertEqual(compared(pair(one), pair(other)), (one > other) - (one < other))
        for reckon in FIVE:
            self.assertEqual(reckon(other=(1, 3), one=(1, 2)), reckon((1, 2), (1, 3)))

    def test_no_fractions_in_either_place(self):
        for reckon in FIVE:
            for value in NO_FRACTIONS:
                check_error(self, InvalidFraction(value), reckon, value, (1, 2))
                check_error(self, InvalidFraction(value), reckon, (1, 2), value)
                check_error(self, InvalidFraction(value), reckon, value, (3, 6))
            check_error(self, InvalidFraction((3, 6)), reckon, (3, 6), (0, 1))
            check_error(self, InvalidFraction((1, 0)), reckon, (0, 1), (1, 0))


if __name__ == "__main__":
    unittest.main()
