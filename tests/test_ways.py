"""[62] to [64]: the ways of telling values."""

import itertools
import unittest

from everygrain.errors import InvalidCount, InvalidValues, InvalidWay, Malformed, Short
from everygrain.octets import Reader, number_octets, signed_octets
from everygrain.ways import pack_values, told_in, unpack_values
from tests.support import Draw, check_error, check_examples, check_given, odd_values

NO_VALUES = odd_values(list, tuple) + [[True], [1, False], (1.0,), [None], ["1"], [[1]], [1, (2,)], [b"a"]]


class ExamplesTest(unittest.TestCase):
    def test_examples_of_the_interface(self):
        check_examples(self, r"""
>>> from everygrain.ways import pack_values, told_in
>>> [told_in([7, 7, 7]), told_in([7, 7, 7], way=1), told_in([7, 7, 7], way=2), told_in([7, 7, 7], way=3)]
[[14, 14, 14], [14, 0, 0], [14, 2], [1, 14, 0, 0, 0]]
>>> [pack_values([7, 7, 7]), pack_values([5, -5]), pack_values([])]
[[2, 14, 2], [0, 10, 9], [0]]
>>> pack_values([100000, 5, 100000, 5, 100000, 5])
[3, 2, 10, 154, 141, 6, 1, 0, 1, 0, 1, 0]
>>> told_in([1, True], way=4)
raises InvalidValues([1, True])
""")


def plainly_told(values, way):
    """What a way tells, as plainly as can be."""
    octets = []
    if way == 0:
        for value in values:
            octets += signed_octets(value)
    if way == 1:
        for at, value in enumerate(values):
            octets += signed_octets(value - values[at - 1] if at else value)
    if way == 2:
        for value, run in itertools.groupby(values):
            octets += signed_octets(value) + number_octets(len(list(run)) - 1)
    if way == 3:
        words = sorted(set(values))
        octets += number_octets(len(words))
        for at, word in enumerate(words):
            octets += number_octets(word - words[at - 1] - 1) if at else signed_octets(word)
        for value in values:
            octets += number_octets(words.index(value))
    return octets


def drawn_values(draw):
    many, width = draw.one_of([0, 1, 2, 3, 8, 30]), 10 ** draw.below(13)
    words = [draw.within(-width, width) for _ in range(draw.one_of([1, 2, 3, 100]))]
    values, value = [], 0
    for _ in range(many):
        kind = draw.below(3)
        if kind == 0 or not values:
            value = draw.one_of(words)
        elif kind == 1:
            value = values[-1] + draw.within(-3, 3)
        values.append(value)
    return values


class ToldInTest(unittest.TestCase):
    def test_each_way_by_its_own_octets(self):
        values = [5, 5, -3, 5, 300, 300, 300]
        self.assertEqual(told_in(values, way=0), [10, 10, 5, 10, 216, 4, 216, 4, 216, 4])
        self.assertEqual(told_in(values, way=1), [10, 0, 15, 16, 206, 4, 0, 0])
        self.assertEqual(told_in(values, way=2), [10, 1, 5, 0, 10, 0, 216, 4, 2])
        self.assertEqual(told_in(values, way=3), [3, 5, 7, 166, 2, 1, 1, 0, 1, 2, 2, 2])
        self.assertEqual(told_in(tuple(values)), told_in(values=values, way=0))

    def test_rows_without_values_and_of_one(self):
        for none in ([], ()):
            self.assertEqual([told_in(none, way=way) for way in range(4)], [[], [], [], [0]])
            self.assertEqual(pack_values(none), [0])
        self.assertEqual([told_in([-1], way=way) for way in range(4)], [[1], [1], [1, 0], [1, 1, 0]])

    def test_long_runs_and_large_dictionaries(self):
        for many in (127, 128, 129, 130, 399, 400):
            self.assertEqual(told_in([0] * many, way=2), [0] + number_octets(many - 1))
        words = [3 * at for at in range(200)]
        told = told_in(words + words, way=3)
        self.assertEqual(told[:4], [200, 1, 0, 2])
        self.assertEqual(len(told), 2 + 200 + 2 * (128 + 2 * 72))
        self.assertEqual(told_in([10 ** 12, -10 ** 12], way=1), signed_octets(10 ** 12) + signed_octets(-2 * 10 ** 12))
        self.assertEqual(told_in([1, 0], way=3), [2, 0, 0, 1, 0])

    def test_drawn_values(self):
        draw = Draw(62)
        for _ in range(300):
            values = drawn_values(draw)
            for way in range(4):
                self.assertEqual(told_in(values, way=way), plainly_told(values, way))

    def test_wrong_values_and_wrong_ways(self):
        for value in NO_VALUES:
            check_given(self, InvalidValues, told_in, value)
            check_given(self, InvalidValues, pack_values, value)
            for way in (0, 4, None, True):
                check_error(self, InvalidValues(value), told_in, value, way=way)
        for way in odd_values(int) + [-1, 4, 10 ** 20, 0.0, "0", [0]]:
            for values in ([], [1]):
                check_error(self, InvalidWay(way), told_in, values, way=way)
        with self.assertRaises(TypeError):
            told_in([1], 0)

    def test_what_is_handed_in_stays_and_what_is_told_is_free(self):
        values = [3, 1, 3]
        for way in range(4):
            told_in(values, way=way).clear()
        pack_values(values).clear()
        self.assertEqual((values, told_in(values), pack_values([])), ([3, 1, 3], [6, 2, 6], [0]))


class PackTest(unittest.TestCase):
    def check_packed(self, values):
        told = [plainly_told(values, way) for way in range(4)]
        fewest = min(len(octets) for octets in told)
        way = [len(octets) for octets in told].index(fewest)
        octets = pack_values(values)
        self.assertEqual(octets, [way] + told[way])
        self.assertLessEqual(len(octets), len(told[0]) + 1)
        reader = Reader(octets + [1, 2])
        self.assertEqual((unpack_values(reader, len(values)), reader.left()), (values, 2))
        return way

    def test_ways_that_tell_equally_few_octets(self):
        self.assertEqual(pack_values([7]), [0, 14])
        self.assertEqual(pack_values([7, 7]), [0, 14, 14])
        self.assertEqual(pack_values([100, 100]), [1, 200, 1, 0])
        self.assertEqual(pack_values([100, 100, 100]), [2, 200, 1, 2])
        for values in ([7], [7, 7], [0, 0], [64, 64, 65], [100, 100], [-64, 64], [0] * 129, [1, 2, 3], [10 ** 12] * 2):
            self.check_packed(values)

    def test_each_way_is_taken(self):
        ways = [self.check_packed(values) for values in (
            [5, -5, 40, 2], [1000, 1001, 1003, 1002], [9] * 400, [10 ** 12, 0, -10 ** 12, 0] * 100)]
        self.assertEqual(ways, [0, 1, 2, 3])

    def test_drawn_values(self):
        draw = Draw(63)
        taken = {self.check_packed(drawn_values(draw)) for _ in range(400)}
        self.assertEqual(taken, {0, 1, 2, 3})
        for many in (1, 399, 400):
            self.check_packed([draw.within(-10 ** 12, 10 ** 12) for _ in range(many)])
            self.check_packed([draw.within(-1, 1) * 10 ** 12 for _ in range(many)])

    def test_by_name_and_as_a_tuple(self):
        self.assertEqual(pack_values(values=(7, 7, 7)), [2, 14, 2])
        self.assertEqual(unpack_values(count=3, reader=Reader([2, 14, 2])), [7, 7, 7])


class UnpackTest(unittest.TestCase):
    def check_refused(self, error, octets, count):
        reader = Reader([9] + octets)
        reader.take(1)
        for _ in range(2):
            check_error(self, error, unpack_values, reader, count)
            self.assertEqual(reader.left(), len(octets))
        self.assertEqual(reader.take(len(octets)), octets)

    def test_cut_anywhere(self):
        draw = Draw(64)
        for _ in range(150):
            values = drawn_values(draw)
            octets = pack_values(values)
            for at in range(len(octets)):
                self.check_refused(Short(), octets[:at], len(values))

    def test_no_counts(self):
        for value in odd_values(int) + [-1]:
            reader = Reader([])
            check_error(self, InvalidCount(value), unpack_values, reader, value)

    def test_no_ways(self):
        self.check_refused(Short(), [], 0)
        for octet in (4, 5, 127, 128, 255):
            for count in (0, 1, 400):
                self.check_refused(Malformed(), [octet], count)
                self.check_refused(Malformed(), [octet, 0, 0], count)
        self.check_refused(Malformed(), [128, 1, 14], 1)

    def test_none_are_wanted(self):
        reader = Reader([0, 5])
        self.assertEqual((unpack_values(reader, 0), reader.left()), ([], 1))
        for octets in ([1], [2], [1, 5], [2, 14, 2], [3, 0], [3, 0, 5], [3, 1, 14], [3, 2, 14, 0, 9]):
            self.check_refused(Malformed(), octets, 0)
        for octets in ([3], [3, 1], [3, 2, 14], [3, 128], [3, 9, 14, 0, 0]):
            self.check_refused(Short(), octets, 0)
        self.check_refused(Malformed(), [3, 128, 0], 0)

    def test_another_way_than_the_one_that_is_taken(self):
        draw = Draw(640)
        for _ in range(150):
            values = drawn_values(draw)
            taken = pack_values(values)[0]
            for way in range(4):
                if way != taken:
                    self.check_refused(Malformed(), [way] + plainly_told(values, way), len(values))

    def test_runs(self):
        self.check_refused(Malformed(), [2, 14, 3], 3)
        self.check_refused(Malformed(), [2, 14, 2, 0, 0], 2)
        self.check_refused(Malformed(), [2, 14, 255, 255, 255, 255, 255, 255, 127], 40000)
        self.check_refused(Malformed(), [2, 14, 1, 14, 1, 0, 0], 4)
        self.check_refused(Malformed(), [2, 14, 0, 14, 3], 5)
        self.check_refused(Short(), [2, 14, 1], 3)
        self.check_refused(Short(), [2, 14], 3)
        self.check_refused(Short(), [2, 14, 128], 3)
        self.check_refused(Malformed(), [2, 14, 128, 0], 3)
        octets = pack_values([7] * 40000)
        self.assertEqual((octets, unpack_values(Reader(octets), 40000)), ([2, 14, 191, 184, 2], [7] * 40000))

    def test_dictionaries(self):
        octets = pack_values([100000, 5, 100000, 5, 100000, 5])
        for index in (2, 3, 127):
            self.check_refused(Malformed(), octets[:-1] + [index], 6)
            self.check_refused(Malformed(), octets[:6] + [index], 6)
        self.check_refused(Short(), octets, 7)
        reader = Reader(octets)
        self.assertEqual((unpack_values(reader, 5), reader.left()), ([100000, 5, 100000, 5, 100000], 1))
        # Four of these values take fewer octets plainly.
        self.check_refused(Malformed(), octets, 4)
        self.check_refused(Malformed(), [3, 0, 0], 1)
        self.check_refused(Short(), [3, 0], 1)
        # A dictionary that is greater than what is left is read until an error is met.
        self.check_refused(Short(), [3] + number_octets(10 ** 30) + [14, 0, 0], 2)
        self.check_refused(Malformed(), [3] + number_octets(10 ** 30) + [14, 0, 128, 0], 2)
        # A value that no index names is not what is returned for the values.
        big = 10 ** 12
        unused = [3, 3] + signed_octets(0) + number_octets(0) + number_octets(big - 2) + [0, 2] * 6
        self.check_refused(Malformed(), unused, 12)
        used = [3, 2] + signed_octets(0) + number_octets(big - 1) + [0, 1] * 6
        self.assertEqual(unpack_values(Reader(used), 12), [0, big] * 6)

    def test_more_wanted_than_octets_left(self):
        for way in range(3):
            self.check_refused(Short(), [way, 14, 0], 40000)
            self.check_refused(Malformed(), [way, 14, 128, 0], 40000)

    def test_octets_changed(self):
        """Whatever is read is just what is returned for the values that it tells."""
        draw = Draw(641)
        read = 0
        for _ in range(1500):
            values = drawn_values(draw)[:6]
            octets = pack_values(values)
            at = draw.below(len(octets))
            octets[at] = draw.one_of([0, 1, 2, 3, 127, 128, draw.below(256)])
            reader = Reader(octets)
            try:
                told = unpack_values(reader, len(values))
            except (Short, Malformed):
                self.assertEqual(reader.left(), len(octets))
            else:
                read += 1
                self.assertEqual((len(told), pack_values(told)), (len(values), octets[:len(octets) - reader.left()]))
        self.assertGreater(read, 100)


if __name__ == "__main__":
    unittest.main()
