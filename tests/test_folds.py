"""[51] to [55] and [57]: points and folds."""

import itertools
import unittest

from everygrain.errors import Crossing, InvalidFold, InvalidPoints, InvalidRows, TooMany
from everygrain.folds import (
    beside, delta, fold, fold_of, is_fold, is_points, is_row_fold, joined, mean, points_of, rate)
from tests.support import Draw, check_error, check_examples, check_given, odd_values

NO_POINTS = odd_values(list, tuple) + [
    [(1, 2), (1, 3)], [(2, 1), (1, 1)], [(0, 1), (2, 1), (2, 1)], [(-1, 5)], [(True, 5)], [(1, True)], [(1.0, 2)],
    [(1, 2.0)], [[1, 2]], [(1,)], [(1, 2, 3)], [()], [None], [1], ((1, 2), (0, 2)), (1, 2), [("1", 2)], [(1, None)],
    [(1, 2), None], ["ab"], [((1, 2),)]]
ONE = (1, 7, 7, 7, (6, 7), (6, 7))
NO_FOLDS = [value for value in odd_values() if value is not None] + [
    (), ONE[:5], ONE + (1,), list(ONE), (0, 7, 7, 7, (6, 7), (6, 7)), (0, 0, 0, 0, (6, 7), (6, 7)),
    (-1, 7, 7, 7, (6, 7), (6, 7)), (True, 7, 7, 7, (6, 7), (6, 7)), (1.0, 7, 7, 7, (6, 7), (6, 7)),
    (1, 7.0, 7, 7, (6, 7), (6, 7)), (1, 7, None, 7, (6, 7), (6, 7)), (1, 7, 7, "7", (6, 7), (6, 7)),
    (1, 7, 7, 7, [6, 7], (6, 7)), (1, 7, 7, 7, (6, 7), [6, 7]), (1, 7, 7, 7, (6, 7), (6, 7, 8)),
    (1, 7, 7, 7, (-6, 7), (-6, 7)), (1, 7, 7, 7, (6, 7), (7, 7)), (1, 7, 7, 7, (6, 7), (6, 8)),
    (1, 8, 7, 7, (6, 7), (6, 7)), (1, 7, 6, 7, (6, 7), (6, 7)), (1, 7, 7, 8, (6, 7), (6, 7)),
    (1, 1, 1, 1, (6, True), (6, True)), (1, True, 1, 1, (6, 1), (6, 1)), (1, 7, 7, 7, None, None),
    (2, 3, 1, 2, (2, 1), (1, 2)), (2, 4, 1, 2, (1, 1), (2, 2)), (2, 3, 0, 2, (1, 1), (2, 2)),
    (2, 3, 1, 3, (1, 1), (2, 2)), (2, 3, 2, 1, (1, 1), (2, 2)), (3, 9, 1, 2, (1, 1), (5, 2)),
    (3, 3, 0, 3, (1, 1), (5, 1)), (4, 5, 0, 3, (1, 1), (5, 2)), (3, 2, 2, 2, (1, 1), (5, 1)), [ONE], (ONE,),
    (2, 3, 1, 2, (1, 1), [2, 2]), (2, 3, 1, 2, [1, 1], (2, 2)), (2, 3, 1, 2, (1, 1), (2, 2, 0)), (2, 3, 1, 2, (1, 1), (2,)),
    (2, 1, 0, 1, (1, 0), (2, True)), (2, 1, 0, 1, (1, False), (2, 1)), (2, 1, 0, True, (1, 0), (2, 1)),
    (2, 1, False, 1, (1, 0), (2, 1)), (2, True, 0, 1, (1, 0), (2, 1)), (1, 1, 1, True, (6, 1), (6, 1)),
    (1, 1, True, 1, (6, 1), (6, 1)), (1, 1, 1, 1, (1, 1), (True, 1)), (2, 1, 0, 1, (0, 0), (True, 1))]


class ExamplesTest(unittest.TestCase):
    def test_examples_of_the_interface(self):
        check_examples(self, r"""
>>> from everygrain.folds import beside, delta, fold, fold_of, is_fold, is_row_fold, joined, mean, points_of, rate
>>> one, other = fold([(1, 5), (4, -2)]), fold(((6, 7),))
>>> [one, other, fold([])]
[(2, 3, -2, 5, (1, 5), (4, -2)), (1, 7, 7, 7, (6, 7), (6, 7)), None]
>>> [joined(one, other), beside(one, fold([(1, 8)])), fold_of([[(1, 5), (4, -2)], [(1, 8)]])]
[(3, 10, -2, 7, (1, 5), (6, 7)), (3, 11, -2, 8, (1, 5), (4, -2)), (3, 11, -2, 8, (1, 5), (4, -2))]
>>> [mean(one), delta(one), rate(one), rate(other), mean(None)]
[(3, 2), -7, (-7, 3), None, None]
>>> [is_fold((2, 3, 1, 2, (1, 1), (1, 2))), is_row_fold((2, 3, 1, 2, (1, 1), (1, 2))), is_fold((3, 9, 1, 2, (1, 1), (5, 2)))]
[True, False, False]
>>> points_of((3, 4, 1, 2, (1, 1), (3, 2)))
[(1, 1), (2, 1), (3, 2)]
>>> joined(one, fold([(4, 0)]))
raises Crossing(4)
""")


def plain_fold(rows):
    """The fold as plainly as can be: all points in order of time, and then of the rows."""
    points = sorted((time, at, value) for at, row in enumerate(rows) for time, value in row)
    if not points:
        return None
    values = [value for _, _, value in points]
    first, last = points[0], points[-1]
    return (len(values), sum(values), min(values), max(values), (first[0], first[2]), (last[0], last[2]))


def drawn_row(draw, many, span=20, width=5):
    times = sorted({draw.below(span) for _ in range(many)})
    return [(time, draw.within(-width, width)) for time in times]


class PointsTest(unittest.TestCase):
    def test_rows_of_points(self):
        for value in ([], (), [(0, 0)], ((0, -5),), [(1, 2), (2, 2), (9, -1)], [(10 ** 12, 10 ** 12)],
                      [(time, -time) for time in range(400)], tuple((3 * time, 1) for time in range(400))):
            self.assertIs(is_points(value), True)
        for value in NO_POINTS:
            self.assertIs(is_points(value), False)
            check_given(self, InvalidPoints, fold, value)
        self.assertIs(is_points(value=[]), True)


class FoldOfTest(unittest.TestCase):
    def test_edges(self):
        for rows in ([], (), [[]], [(), []], ((),)):
            self.assertIsNone(fold_of(rows))
        for points in ([], ()):
            self.assertIsNone(fold(points))
        self.assertEqual(fold(points=[(3, -4)]), (1, -4, -4, -4, (3, -4), (3, -4)))
        self.assertEqual(fold_of(rows=[[(3, 1)], [(3, 2)], [(3, 0)]]), (3, 3, 0, 2, (3, 1), (3, 0)))
        self.assertEqual(fold_of([[], [(3, 1), (5, 9)], (), ((0, 2), (5, 8))]), (4, 20, 1, 9, (0, 2), (5, 8)))
        row = [(3 * time, (time * 7) % 400 - 200) for time in range(400)]
        self.assertEqual(fold(row), (400, -200, -200, 199, (0, -200), (1197, -200 + 399 * 7 % 400)))

    def test_drawn_rows(self):
        draw = Draw(52)
        for _ in range(300):
            rows = [drawn_row(draw, draw.below(5), 6) for _ in range(draw.below(5))]
            self.assertEqual(fold_of(rows), plain_fold(rows))
            self.assertEqual(fold_of(tuple(tuple(row) for row in rows)), plain_fold(rows))
            for row in rows:
                self.assertEqual(fold(row), plain_fold([row]))

    def test_no_rows(self):
        for value in odd_values(list, tuple) + [[row] for row in NO_POINTS] + [[(1, 2)], [[(1, 2)], [(2, 1), (1, 1)]]]:
            check_given(self, InvalidRows, fold_of, value)

    def test_what_is_handed_in_stays(self):
        rows = [[(1, 2)], [(0, 3)]]
        told = fold_of(rows)
        rows[0].append((4, 4))
        self.assertEqual((told, rows), ((2, 5, 2, 3, (0, 3), (1, 2)), [[(1, 2), (4, 4)], [(0, 3)]]))


def all_folds(one_row, many, span, values):
    """All folds of rows with so many points at times below the span and with these values."""
    told = set()
    for times in itertools.product(range(span), repeat=many):
        if list(times) != sorted(times) or one_row and len(set(times)) < many:
            continue
        for row in itertools.product(values, repeat=many):
            told.add(plain_fold([[point] for point in zip(times, row)]))
    return told


class IsFoldTest(unittest.TestCase):
    def test_all_small_folds(self):
        for many, values in ((1, (0, 1, 2)), (2, (-1, 0, 2)), (3, (0, 1, 3)), (4, (0, 1, 2)), (5, (0, 2, 1))):
            rows, lists = all_folds(True, many, 6, values), all_folds(False, many, 6, values)
            self.check_all(many, sorted(values), rows, lists)

    def check_all(self, many, values, rows, lists):
        """Folds of all their own parts: with values between the utmost ones, more of them can be made."""
        full = values == list(range(values[0], values[-1] + 1))
        sums = range(many * values[0] - 1, many * values[-1] + 2)
        for total, least, greatest in itertools.product(sums, values, values):
            for first, last in itertools.product(values, values):
                for time in range(6):
                    value = (many, total, least, greatest, (0, first), (time, last))
                    if value in lists:
                        self.assertIs(is_fold(value), True, value)
                        self.assertIs(is_row_fold(value), value in rows, value)
                    elif full:
                        self.assertIs(is_fold(value), False, value)
                        self.assertIs(is_row_fold(value), False, value)

    def test_none_and_other_forms(self):
        self.assertEqual((is_fold(None), is_row_fold(None), points_of(None)), (True, True, []))
        for value in NO_FOLDS:
            self.assertEqual((is_fold(value), is_row_fold(value)), (False, False), value)
            check_given(self, InvalidFold, points_of, value)
        self.assertEqual((is_fold(value=ONE), is_row_fold(value=ONE), points_of(fold=ONE)), (True, True, [(6, 7)]))

    def test_changed_by_a_step(self):
        """Each part, and each two parts, of folds of drawn rows go up or down; a search tells what is a fold."""
        draw = Draw(53)
        for _ in range(25):
            row = drawn_row(draw, draw.within(1, 4), 6, 2)
            parts = flat(fold(row))
            for one, other in itertools.combinations(range(8), 2):
                for step, further in itertools.product((-1, 0, 1), repeat=2):
                    changed = list(parts)
                    changed[one] += step
                    changed[other] += further
                    value = unflat(changed)
                    self.assertEqual(is_fold(value), searched(value, False), value)
                    self.assertEqual(is_row_fold(value), searched(value, True), value)

    def test_the_least_and_the_greatest_sums(self):
        for many in (2, 3, 4, 5, 399, 400, 401, 10 ** 12):
            for first, last, least, greatest in itertools.product((-3, 0, 4), (-3, 0, 4), (-3, 0), (0, 4)):
                ends = [first, last]
                certain = ends + [value for value in (least, greatest) if value not in ends]
                possible = least <= min(ends) and max(ends) <= greatest and many >= len(certain)
                for utmost, step in ((least, -1), (greatest, 1)):
                    total = sum(certain) + (many - len(certain)) * utmost
                    parts = (least, greatest, (5, first), (5 + many - 1, last))
                    self.assertIs(is_row_fold((many, total) + parts), possible)
                    self.assertIs(is_fold((many, total) + parts), possible)
                    self.assertIs(is_fold((many, total + step) + parts), False)

    def test_times(self):
        for many in (2, 3, 400, 401):
            for last in (4, 5, many + 2, many + 3, many + 4, many + 5):
                value = (many, 0, 0, 0, (5, 0), (last, 0))
                self.assertEqual((is_fold(value), is_row_fold(value)), (last >= 5, last - 5 >= many - 1))


def flat(value):
    return list(value[:4]) + list(value[4]) + list(value[5])


def unflat(parts):
    return tuple(parts[:4]) + ((parts[4], parts[5]), (parts[6], parts[7]))


def searched(value, one_row):
    """Whether any rows have this fold, by trying all values."""
    count, total, least, greatest, first, last = value
    if count < 1 or first[0] < 0 or last[0] < first[0]:
        return False
    if count == 1:
        return value == (1, total, total, total, first, first) and first[1] == total
    if one_row and last[0] - first[0] < count - 1:
        return False
    for inner in itertools.product(range(least, greatest + 1), repeat=count - 2):
        values = [first[1], *inner, last[1]]
        if (sum(values), min(values), max(values)) == (total, least, greatest):
            return True
    return False


class PointsOfTest(unittest.TestCase):
    def check_points(self, value):
        points = points_of(value)
        self.assertIs(type(points), list)
        self.assertTrue(is_points(points))
        self.assertEqual(fold(points), value)
        self.assertEqual(points_of(value), points)
        points.append((1, 1))
        self.assertNotEqual(points_of(value), points)

    def test_drawn_folds(self):
        draw = Draw(530)
        for _ in range(400):
            row = drawn_row(draw, draw.below(9), draw.within(1, 30), draw.below(20))
            self.check_points(fold(row))
        for many in (398, 399, 400):
            row = [(3 * time, draw.within(-10 ** 12, 10 ** 12)) for time in range(many)]
            self.check_points(fold(row))
            self.check_points(fold([(time, 7) for time in range(many)]))
            for total in (7 * many + 2, 8 * many, 9 * many - 2):
                self.check_points((many, total, 7, 9, (0, 7), (many - 1, 9)))

    def test_each_sum(self):
        for many, first, last in ((3, 0, 5), (4, 2, 3), (6, 0, 0), (5, 5, 1)):
            certain = [first, last] + [value for value in (0, 5) if value not in (first, last)]
            free = many - len(certain)
            for total in range(sum(certain), sum(certain) + 5 * free + 1):
                self.check_points((many, total, 0, 5, (7, first), (6 + many, last)))
                self.check_points((many, total, 0, 5, (7, first), (600, last)))

    def test_too_many(self):
        for many in (401, 402, 40000, 10 ** 12):
            check_error(self, TooMany(many), points_of, (many, 0, 0, 0, (0, 0), (many, 0)))
            # What is the fold of no row is asked first.
            check_given(self, InvalidFold, points_of, (many, 0, 0, 0, (0, 0), (many - 2, 0)))
            check_given(self, InvalidFold, points_of, (many, 1, 0, 0, (0, 0), (many, 0)))
        check_given(self, InvalidFold, points_of, (2, 3, 1, 2, (1, 1), (1, 2)))


class TogetherTest(unittest.TestCase):
    def test_stretches_cut_anywhere_and_joined_in_any_way(self):
        draw = Draw(54)
        for _ in range(150):
            rows = [drawn_row(draw, draw.below(7), 12) for _ in range(draw.within(1, 3))]
            cuts = [0] + sorted(draw.below(13) for _ in range(4)) + [12]
            folds = [fold_of([[point for point in row if low <= point[0] < high] for row in rows])
                     for low, high in zip(cuts, cuts[1:])]
            while len(folds) > 1:
                at = draw.below(len(folds) - 1)
                folds[at:at + 2] = [joined(folds[at], folds[at + 1])]
            self.assertEqual(folds[0], fold_of(rows))

    def test_none_and_crossing(self):
        one, other = fold([(1, 5), (4, -2)]), fold([(5, 7), (6, 1)])
        self.assertEqual((joined(None, one), joined(one, None), joined(None, None)), (one, one, None))
        self.assertEqual((beside(None, one), beside(one, None), beside(None, None)), (one, one, None))
        self.assertEqual(joined(other=other, one=one), (4, 11, -2, 7, (1, 5), (6, 1)))
        for time in range(5):
            check_error(self, Crossing(time), joined, one, fold([(time, 0)]))
        self.assertEqual(joined(one, fold([(5, 0)])), (3, 3, -2, 5, (1, 5), (5, 0)))
        check_error(self, Crossing(4), joined, one, fold([(4, 0), (5, 1), (9, 2)]))
        check_error(self, Crossing(1), joined, other, one)
        check_error(self, Crossing(1), joined, one, one)

    def test_folds_of_several_rows(self):
        many = (3, 3, 0, 2, (3, 1), (3, 0))
        self.assertEqual(joined(many, fold([(4, 9)])), (4, 12, 0, 9, (3, 1), (4, 9)))
        self.assertEqual(beside(many, many), (6, 6, 0, 2, (3, 1), (3, 0)))

    def test_rows_beside_one_another(self):
        draw = Draw(55)
        for _ in range(200):
            rows = [drawn_row(draw, draw.below(4), 4) for _ in range(draw.within(1, 5))]
            folds = [fold(row) for row in rows]
            while len(folds) > 1:
                at = draw.below(len(folds) - 1)
                folds[at:at + 2] = [beside(folds[at], folds[at + 1])]
            self.assertEqual(folds[0], fold_of(rows))
        self.assertEqual(beside(other=fold([(2, 4)]), one=fold([(2, 5)])), (2, 9, 4, 5, (2, 5), (2, 4)))

    def test_first_joined_or_first_beside(self):
        draw = Draw(545)
        for _ in range(200):
            rows = [drawn_row(draw, draw.below(6), 10) for _ in range(2)]
            cut = draw.below(11)
            early = [fold([point for point in row if point[0] < cut]) for row in rows]
            late = [fold([point for point in row if point[0] >= cut]) for row in rows]
            one_way = beside(joined(early[0], late[0]), joined(early[1], late[1]))
            self.assertEqual(one_way, joined(beside(*early), beside(*late)))
            self.assertEqual(one_way, fold_of(rows))

    def test_the_first_of_two_wrong_values(self):
        for call in (joined, beside):
            for value in NO_FOLDS:
                check_error(self, InvalidFold(value), call, value, ONE)
                check_error(self, InvalidFold(value), call, ONE, value)
                check_error(self, InvalidFold(value), call, None, value)
                check_error(self, InvalidFold(value), call, value, None)
                check_error(self, InvalidFold(value), call, value, (0,))
            check_error(self, InvalidFold((0,)), call, ONE, (0,))


class AnswersTest(unittest.TestCase):
    def test_answers(self):
        told = fold([(2, 10), (4, 1), (8, 7)])
        self.assertEqual((mean(told), delta(told), rate(told)), ((6, 1), -3, (-1, 2)))
        self.assertEqual((mean(ONE), delta(ONE), rate(ONE)), ((7, 1), 0, None))
        self.assertEqual((mean(fold=None), delta(fold=None), rate(fold=None)), (None, None, None))
        level = fold([(2, 3), (9, 3)])
        self.assertEqual((mean(level), delta(level), rate(level)), ((3, 1), 0, (0, 1)))
        zero = fold([(2, -3), (9, 3)])
        self.assertEqual((mean(zero), delta(zero), rate(zero)), ((0, 1), 6, (6, 7)))
        self.assertEqual(mean(fold([(0, -1), (1, -2)])), (-3, 2))

    def test_folds_of_several_rows(self):
        told = fold_of([[(3, 1)], [(3, 6)]])
        self.assertEqual((mean(told), delta(told), rate(told)), ((7, 2), 5, None))

    def test_no_folds(self):
        for value in NO_FOLDS:
            for call in (mean, delta, rate):
                check_given(self, InvalidFold, call, value)


if __name__ == "__main__":
    unittest.main()
