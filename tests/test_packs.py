"""[61], [64] and [65]: times and points in few octets."""

import unittest

from everygrain.errors import InvalidOctets, InvalidPoints, InvalidTimes, Malformed, Short
from everygrain.octets import Reader, number_octets, signed_octets
from everygrain.packs import pack, pack_times, unpack, unpack_times
from everygrain.ways import pack_values, told_in
from tests.support import Draw, check_error, check_examples, check_given, odd_values
from tests.test_folds import NO_POINTS

NO_TIMES = odd_values(list, tuple) + [[-1], [True], [0, True], [1, 1], [2, 1], [0, 1, 1], [0, 5, 4], [1.0], (0, 1.0),
                                      [None], ["1"], [[1]], [(1, 2)], [0, None]]


class ExamplesTest(unittest.TestCase):
    def test_examples_of_the_interface(self):
        check_examples(self, r"""
>>> from everygrain.octets import Reader
>>> from everygrain.packs import pack, pack_times, unpack, unpack_times
>>> [pack_times([10, 20, 30, 45]), pack([(10, 7), (20, 7), (30, 7)]), pack([])]
[[4, 10, 9, 0, 10], [3, 10, 9, 0, 2, 14, 2], [0, 0]]
>>> unpack((3, 10, 9, 0, 2, 14, 2))
[(10, 7), (20, 7), (30, 7)]
>>> reader = Reader([2, 3, 0, 3, 3, 1, 7, 13])
>>> [unpack_times(reader), reader.left()]
[[3, 4], 5]
>>> unpack_times(reader)
raises Malformed()
>>> reader.left()
5
>>> unpack([1, 10, 1, 14])
raises Malformed()
""")


def plainly_packed(times):
    """The octets of a row of times, as plainly as can be."""
    octets = number_octets(len(times))
    for at, time in enumerate(times):
        if at == 0:
            octets += number_octets(time)
        elif at == 1:
            octets += number_octets(time - times[0] - 1)
        else:
            octets += signed_octets((time - times[at - 1]) - (times[at - 1] - times[at - 2]))
    return octets


def drawn_times(draw):
    many, width = draw.one_of([0, 1, 2, 3, 8, 40]), 10 ** draw.below(11)
    times, time, distance = [], draw.below(width), 1
    for _ in range(many):
        times.append(time)
        distance = draw.one_of([distance, distance, distance + 1, max(1, distance - 1), draw.within(1, width)])
        time += distance
    return times


def drawn_points(draw):
    words = [draw.within(-10 ** draw.below(13), 10 ** draw.below(13)) for _ in range(draw.within(1, 6))]
    return [(time, draw.one_of(words)) for time in drawn_times(draw)]


class TimesTest(unittest.TestCase):
    def test_edges(self):
        for times, octets in {(): [0], (0,): [1, 0], (128,): [1, 128, 1], (0, 1): [2, 0, 0], (5, 133): [2, 5, 127],
                              (5, 134): [2, 5, 128, 1], (0, 1, 2): [3, 0, 0, 0], (0, 9, 10): [3, 0, 8, 15]}.items():
            self.assertEqual(pack_times(times), octets)
            self.assertEqual(pack_times(list(times)), octets)
            self.assertEqual(unpack_times(Reader(octets)), list(times))
        self.assertEqual(pack_times(times=[1]), [1, 1])
        self.assertEqual(unpack_times(reader=Reader([1, 1])), [1])

    def test_distances_that_grow_and_shrink(self):
        for change in (-66, -65, -64, -63, -1, 0, 1, 62, 63, 64, 65):
            times = [7, 1007, 2007 + change, 3007 + 2 * change]
            octets = pack_times(times)
            self.assertEqual(len(octets), 4 + (1 if -64 <= change <= 63 else 2) + 1)
            self.assertEqual(octets, plainly_packed(times))
            self.assertEqual(unpack_times(Reader(octets)), times)

    def test_drawn_times(self):
        draw = Draw(61)
        for _ in range(300):
            times = drawn_times(draw)
            octets = pack_times(times)
            self.assertEqual(octets, plainly_packed(times))
            reader = Reader([3] + octets + [5, 6])
            reader.take(1)
            self.assertEqual((unpack_times(reader), reader.left()), (times, 2))
            for at in range(len(octets)):
                check_error(self, Short(), unpack_times, Reader(octets[:at]))
        row = [10 ** 11 + 60 * at for at in range(400)]
        self.assertEqual(len(pack_times(row)), 2 + 6 + 1 + 398)
        self.assertEqual(unpack_times(Reader(pack_times(row))), row)

    def test_no_times(self):
        for value in NO_TIMES:
            check_given(self, InvalidTimes, pack_times, value)

    def check_refused(self, error, octets):
        reader = Reader([9] + octets)
        reader.take(1)
        for _ in range(2):
            check_error(self, error, unpack_times, reader)
            self.assertEqual(reader.left(), len(octets))
        self.assertEqual(reader.take(len(octets)), octets)

    def test_refused(self):
        for octets in ([], [1], [2, 5], [128], [3, 0, 0], [3, 0, 128], [2, 5, 128], number_octets(10 ** 30) + [1, 2, 0]):
            self.check_refused(Short(), octets)
        for octets in ([128, 0], [1, 128, 0], [2, 1, 128, 0], [3, 0, 4, 128, 0], [3, 0, 0, 1], [3, 0, 4, 9], [3, 0, 4, 11],
                       [4, 0, 4, 7, 1], number_octets(10 ** 30) + [1, 2, 200, 0]):
            self.check_refused(Malformed(), octets)
        # The error that is met first, though more is wrong behind it.
        self.check_refused(Malformed(), [9, 0, 0, 1])
        self.assertEqual(unpack_times(Reader([3, 0, 4, 7])), [0, 5, 6])

    def test_what_is_handed_in_stays_and_what_is_told_is_free(self):
        times = [1, 5]
        pack_times(times).clear()
        reader = Reader(pack_times(times))
        copied = reader.copied()
        unpack_times(reader).clear()
        self.assertEqual((times, unpack_times(copied), pack_times(times)), ([1, 5], [1, 5], [2, 1, 3]))


class PackTest(unittest.TestCase):
    def test_what_is_packed_comes_back(self):
        draw = Draw(65)
        packed = {}
        for _ in range(400):
            points = drawn_points(draw)
            octets = pack(points)
            times, values = [time for time, _ in points], [value for _, value in points]
            self.assertEqual(octets, pack_times(times) + pack_values(values))
            self.assertEqual((unpack(octets), pack(tuple(points)), unpack(tuple(octets))), (points, octets, points))
            self.assertEqual(packed.setdefault(tuple(octets), points), points)

    def test_each_beginning_and_more_behind(self):
        draw = Draw(650)
        for points in [[], [(0, 0)], [(5, -1), (9, -1)]] + [drawn_points(draw) for _ in range(100)]:
            octets = pack(points)
            for at in range(len(octets)):
                check_error(self, Short(), unpack, octets[:at])
            for more in ([0], [255], [0, 0], octets, [128]):
                check_error(self, Malformed(), unpack, octets + more)

    def test_edges(self):
        for points, octets in (([], [0, 0]), ([(0, 0)], [1, 0, 0, 0]), ([(3, -1)], [1, 3, 0, 1]),
                               ([(3, 8), (4, 8)], [2, 3, 0, 0, 16, 16])):
            self.assertEqual((pack(points=points), unpack(octets=octets)), (octets, points))
        for many in (1, 399, 400):
            points = [(10 ** 12 - 1 - many + at, (-1) ** at * (10 ** 12 - 1 - at)) for at in range(many)]
            self.assertEqual(unpack(pack(points)), points)

    def test_more_points_than_may_be_handed_in(self):
        octets = number_octets(40000) + [0, 0] + [0] * 39998 + pack_values([5] * 40000)
        self.assertEqual(unpack(octets), [(time, 5) for time in range(40000)])

    def test_no_points(self):
        for value in NO_POINTS:
            check_given(self, InvalidPoints, pack, value)

    def test_refused(self):
        for value in odd_values(list, tuple) + [[256], [True], [1.0], (-1,)]:
            check_given(self, InvalidOctets, unpack, value)
        for octets in ([], [0], [1, 10], [1, 10, 0], [2, 1, 0, 0, 14], [1, 10, 3, 9, 14]):
            check_error(self, Short(), unpack, octets)
        for octets in ([0, 1], [0, 2], [0, 3, 0], [0, 4], [1, 10, 1, 14], [1, 10, 2, 14, 0], [1, 10, 2, 14, 1], [0, 0, 0],
                       [3, 0, 0, 1, 0, 1, 1, 1], [1, 10, 9, 14], [1, 128, 0], [2, 1, 0, 2, 14, 1]):
            check_error(self, Malformed(), unpack, octets)

    def test_another_way_than_the_one_that_is_taken(self):
        points = [(1, 7), (2, 7), (3, 7), (4, 9)]
        for way in range(4):
            octets = pack_times([1, 2, 3, 4]) + [way] + told_in([7, 7, 7, 9], way=way)
            if octets == pack(points):
                self.assertEqual(unpack(octets), points)
            else:
                check_error(self, Malformed(), unpack, octets)

    def test_octets_changed(self):
        """Wherever octets are read, they are the pack of what was read."""
        draw = Draw(651)
        read = 0
        for _ in range(1500):
            octets = pack(drawn_points(draw)[:draw.below(6)])
            octets[draw.below(len(octets))] = draw.one_of([0, 1, 2, 3, draw.below(256)])
            try:
                points = unpack(octets)
            except (Short, Malformed):
                continue
            read += 1
            self.assertEqual(pack(points), octets)
        self.assertGreater(read, 100)

    def test_what_is_handed_in_stays_and_what_is_told_is_free(self):
        points = [(1, 7), (2, 7)]
        octets = pack(points)
        unpack(octets).clear()
        self.assertEqual((points, unpack(octets), octets), ([(1, 7), (2, 7)], points, [2, 1, 0, 0, 14, 14]))


if __name__ == "__main__":
    unittest.main()
