"""[6]: the errors."""

import unittest

from everygrain import errors

GIVEN = """InvalidCount InvalidValue InvalidText InvalidOctets InvalidName InvalidChoice InvalidTags InvalidSeries
InvalidSeriesList InvalidPoints InvalidRows InvalidFold InvalidFraction InvalidTimes InvalidValues InvalidWay InvalidRules
InvalidWindow InvalidWindows InvalidDeed InvalidTime InvalidLayers InvalidCells InvalidBlock InvalidRecord InvalidRoll
InvalidDisk InvalidTruth InvalidSelection InvalidWord InvalidQuery InvalidSnapshot InvalidLine InvalidLines
InvalidKind""".split()

OTHERS = {
    "Short": [], "Malformed": [], "NoFile": ["name"], "PowerCut": [], "Crossing": ["time"], "NoGrain": ["grain"],
    "Gone": ["time", "grain"], "ClockBack": ["now"], "NoSeries": ["series"], "OtherRules": ["rules"],
    "Broken": ["name"], "NoView": ["name"], "TooManyViews": ["count"], "TooMany": ["count"]}

ATTRIBUTES = {**{name: ["given"] for name in GIVEN}, **OTHERS}


class ErrorsTest(unittest.TestCase):
    def test_all_are_there_and_no_others(self):
        self.assertEqual(len(GIVEN), 35)
        told = {name for name, value in vars(errors).items() if isinstance(value, type)}
        self.assertEqual(told, set(ATTRIBUTES) | {"GrainError"})

    def test_each_is_a_direct_subclass(self):
        self.assertTrue(issubclass(errors.GrainError, Exception))
        for name in ATTRIBUTES:
            self.assertEqual(getattr(errors, name).__bases__, (errors.GrainError,), name)

    def test_made_by_place_and_by_name_of_any_values(self):
        for name, attributes in ATTRIBUTES.items():
            kind = getattr(errors, name)
            for value in (None, True, -1, "x", [1, [2]], {"a": 1}, object(), ValueError):
                values = [value] + [[at] for at in range(1, len(attributes))]
                values = values[:len(attributes)]
                for error in (kind(*values), kind(**dict(zip(attributes, values)))):
                    self.assertEqual(list(vars(error)), attributes)
                    for attribute, part in zip(attributes, values):
                        self.assertIs(getattr(error, attribute), part)

    def test_other_attributes_are_none(self):
        for name, attributes in ATTRIBUTES.items():
            with self.assertRaises(TypeError):
                getattr(errors, name)(*([1] * len(attributes)), odd=1)
            if attributes:
                with self.assertRaises(TypeError):
                    getattr(errors, name)()

    def test_raised_and_caught(self):
        for name, attributes in ATTRIBUTES.items():
            with self.assertRaises(errors.GrainError) as caught:
                raise getattr(errors, name)(*attributes)
            self.assertEqual(list(vars(caught.exception).values()), attributes)


if __name__ == "__main__":
    unittest.main()
