"""[82] to [86]: the plain list."""

import unittest

from everygrain.errors import (
    ClockBack, Gone, InvalidDeed, InvalidRules, InvalidSeries, InvalidWindow, InvalidWindows)
from everygrain.folds import fold, joined
from everygrain.grains import Rules
from everygrain.plain import Plain
from everygrain.series import Series, in_order
from tests.support import Draw, check_error, check_examples, check_given, odd_values
from tests.test_deeds import NO_DEEDS
from tests.test_grains import drawn_rows

LOAD, HEAT = Series("load", {"host": "a"}), Series("heat")
ALL = [Series("load", {"host": "a"}), Series("heat"), Series("load2"), Series("load")]
ROWS = [(1, 8), (4, 20), (8, 40)]
FOR_EVER = [(1, None)]
NO_TIMES = odd_values() + [-1, "3", [3], 3.0]


class ExamplesTest(unittest.TestCase):
    def test_examples_of_the_interface(self):
        check_examples(self, r"""
>>> from everygrain.deeds import is_deed
>>> from everygrain.grains import Rules
>>> from everygrain.plain import Plain
>>> from everygrain.series import Series
>>> load, plain = Series("load"), Plain(Rules([(1, 8), (4, 20), (8, None)]))
>>> plain.do(("put", load, 3, 5))
>>> plain.do(("put", load, 9, -2))
>>> plain.do(("put", load, 6, 4))
>>> plain.do(("take", load, 6, 9))
>>> plain.do(("clock", 14))
>>> [plain.clock(), plain.done(), plain.series() == [load], is_deed(("take", load, 9, 9))]
[14, 5, True, False]
>>> [plain.points(load, 4, 20), plain.folds(load, 0, 8, 4), plain.folds(load, 8, 8, 3)]
[[(9, -2)], [(1, 5, 5, 5, (3, 5), (3, 5)), None], []]
>>> plain.folds(load, 2, 6, 2)
raises Gone(2, 0)
>>> plain.do(("put", load, 3, 6))
raises Gone(3, 0)
""")


def made(rows, *deeds):
    plain = Plain(Rules(rows))
    for deed in deeds:
        plain.do(deed)
    return plain


def state_of(plain):
    """All that a plain list answers about a few times, as one value."""
    told = [plain.clock(), plain.done(), [one.text() for one in plain.series()]]
    edge = plain.rules().edge(0, plain.clock())
    for series in ALL:
        told.append(plain.points(series, edge, 10 ** 13))
    return told


class DoTest(unittest.TestCase):
    def test_new(self):
        for rows in (ROWS, FOR_EVER):
            plain = made(rows)
            self.assertTrue(plain.rules() == Rules(rows))
            self.assertEqual((plain.clock(), plain.done(), plain.series()), (0, 0, []))
            self.assertEqual((plain.points(LOAD, 0, 99), plain.folds(LOAD, 0, 4, 2)), ([], [None, None]))
        self.assertTrue(Plain(rules=Rules(ROWS)).rules() == Rules(ROWS))

    def test_no_rules(self):
        for value in odd_values() + [ROWS, tuple(ROWS), Rules, LOAD, made(ROWS)]:
            check_given(self, InvalidRules, Plain, value)

    def test_each_deed(self):
        plain = Plain(Rules(FOR_EVER))
        self.assertIsNone(plain.do(("put", LOAD, 5, 1)))
        self.assertIsNone(plain.do(deed=("put", LOAD, 3, -2)))
        self.assertIsNone(plain.do(("put", HEAT, 5, 9)))
        self.assertEqual(plain.points(LOAD, 0, 9), [(3, -2), (5, 1)])
        # A put onto a time that has a value.
        plain.do(("put", LOAD, 5, 7))
        self.assertEqual((plain.points(LOAD, 0, 9), plain.points(HEAT, 0, 9)), ([(3, -2), (5, 7)], [(5, 9)]))
        # A take of nothing, of some, of all, of a series without points.
        plain.do(("take", LOAD, 4, 5))
        plain.do(("take", LOAD, 6, 9))
        plain.do(("take", Series("none"), 0, 99))
        self.assertEqual(plain.points(LOAD, 0, 9), [(3, -2), (5, 7)])
        self.assertIsNone(plain.do(("take", LOAD, 3, 5)))
        self.assertEqual((plain.points(LOAD, 0, 9), plain.points(HEAT, 0, 9)), ([(5, 7)], [(5, 9)]))
        plain.do(("take", LOAD, 0, 99))
        self.assertEqual((plain.points(LOAD, 0, 9), plain.series()), ([], [HEAT]))
        # A put behind a take stands again.
        plain.do(("put", LOAD, 5, 8))
        self.assertEqual(plain.points(LOAD, 0, 9), [(5, 8)])
        self.assertIsNone(plain.do(("clock", 4)))
        plain.do(("clock", 4))
        self.assertEqual((plain.clock(), plain.done()), (4, 12))

    def test_an_equal_series_is_the_same_one(self):
        plain = made(FOR_EVER, ("put", Series("load", [("host", "a")]), 1, 2), ("put", LOAD, 2, 3))
        self.assertEqual(plain.points(Series("load", {"host": "a"}), 0, 9), [(1, 2), (2, 3)])
        self.assertEqual(plain.series(), [LOAD])
        plain.do(("take", Series("load", (("host", "a"),)), 1, 2))
        self.assertEqual(plain.points(LOAD, 0, 9), [(2, 3)])

    def test_ends_of_a_take(self):
        for low in range(6):
            for high in range(low + 1, 7):
                plain = made(FOR_EVER, *[("put", LOAD, time, time) for time in range(6)], ("take", LOAD, low, high))
                self.assertEqual([time for time, _ in plain.points(LOAD, 0, 9)],
                                 [time for time in range(6) if not low <= time < high])

    def check_refused(self, plain, deed, error):
        before = state_of(plain)
        check_error(self, error, plain.do, deed)
        self.assertEqual(state_of(plain), before)

    def test_no_deeds(self):
        plain = made(ROWS, ("put", LOAD, 3, 5), ("clock", 30))
        for value in NO_DEEDS:
            before = state_of(plain)
            check_given(self, InvalidDeed, plain.do, value)
            self.assertEqual(state_of(plain), before)

    def test_deeds_at_the_edge(self):
        plain = made(ROWS, ("put", LOAD, 19, 1), ("put", LOAD, 20, 2), ("clock", 30))
        for time in (0, 3, 19):
            self.check_refused(plain, ("put", LOAD, time, 5), Gone(time, 0))
            self.check_refused(plain, ("take", LOAD, time, 20), Gone(time, 0))
            self.check_refused(plain, ("take", LOAD, time, 99), Gone(time, 0))
        self.check_refused(plain, ("take", HEAT, 19, 20), Gone(19, 0))
        plain.do(("put", LOAD, 20, 5))
        plain.do(("put", LOAD, 10 ** 12, 5))
        self.assertEqual(plain.points(LOAD, 20, 10 ** 13), [(20, 5), (10 ** 12, 5)])
        plain.do(("take", LOAD, 20, 21))
        self.assertEqual((plain.points(LOAD, 20, 10 ** 13), plain.done()), ([(10 ** 12, 5)], 6))
        for now in (0, 29):
            self.check_refused(plain, ("clock", now), ClockBack(now))
        plain.do(("clock", 30))
        self.assertEqual((plain.clock(), plain.done()), (30, 7))

    def test_the_order_of_refusals(self):
        plain = made(ROWS, ("clock", 30))
        # What is no deed is told as such, also with a time that is gone.
        self.check_refused(plain, ("put", LOAD, 3, None), InvalidDeed(("put", LOAD, 3, None)))
        self.check_refused(plain, ("take", LOAD, 3, 3), InvalidDeed(("take", LOAD, 3, 3)))
        self.check_refused(plain, ("clock", -1), InvalidDeed(("clock", -1)))

    def test_no_edge_without_a_keep(self):
        plain = made(FOR_EVER, ("clock", 10 ** 12), ("put", LOAD, 0, 5))
        plain.do(("take", HEAT, 0, 1))
        self.assertEqual((plain.points(LOAD, 0, 1), plain.done()), ([(0, 5)], 3))


class SeriesTest(unittest.TestCase):
    def test_in_order(self):
        plain = made(FOR_EVER, *[("put", series, 1, 1) for series in ALL], ("put", ALL[0], 2, 2))
        self.assertEqual(plain.series(), in_order(ALL))
        self.assertEqual([one.text() for one in plain.series()], ["heat{}", "load2{}", "load{host=a}", "load{}"])
        plain.do(("take", HEAT, 0, 2))
        self.assertEqual(plain.series(), in_order(ALL)[1:])

    def test_the_last_point_at_the_edge_of_the_last_grain(self):
        # At the clock 56 the edge of the last grain is 16, at 55 it is 8.
        for time, stays in ((0, 47), (7, 47), (8, 55), (15, 55), (16, 63)):
            plain = made(ROWS, ("put", LOAD, time, 1), ("put", HEAT, 60, 1), ("clock", stays))
            self.assertEqual(plain.series(), [HEAT, LOAD], time)
            plain.do(("clock", stays + 1))
            self.assertEqual(plain.series(), [HEAT], time)
            plain.do(("put", LOAD, 90, 1))
            self.assertEqual(plain.series(), [HEAT, LOAD])
        # It is the last point that counts, whichever was put last.
        plain = made(ROWS, ("put", LOAD, 16, 1), ("put", LOAD, 3, 1), ("clock", 56))
        self.assertEqual(plain.series(), [LOAD])

    def test_points_that_only_a_longer_grain_tells(self):
        plain = made(ROWS, ("put", LOAD, 1, 1), ("clock", 30))
        self.assertEqual(plain.series(), [LOAD])
        plain = made([(1, 3)], ("put", LOAD, 1, 1), ("clock", 4))
        self.assertEqual(plain.series(), [LOAD])
        plain.do(("clock", 5))
        self.assertEqual(plain.series(), [])


class PointsTest(unittest.TestCase):
    def test_windows(self):
        plain = made(FOR_EVER, *[("put", LOAD, time, -time) for time in (7, 3, 5, 4, 10 ** 12)])
        for low in range(9):
            for high in range(low, 10):
                self.assertEqual(plain.points(LOAD, low, high),
                                 [(time, -time) for time in (3, 4, 5, 7) if low <= time < high])
        self.assertEqual(plain.points(high=10 ** 12, low=7, series=LOAD), [(7, -7)])
        self.assertEqual(plain.points(LOAD, 8, 10 ** 12 + 1), [(10 ** 12, -10 ** 12)])
        self.assertEqual(plain.points(HEAT, 0, 99), [])

    def test_errors_and_their_order(self):
        plain = made(ROWS, ("put", LOAD, 3, 5), ("put", LOAD, 20, 6), ("clock", 30))
        for value in odd_values() + ["load{}", "load", [LOAD], (LOAD,), ("load", ())]:
            for low, high in ((20, 30), (0, 9), (9, 0), (None, None)):
                check_error(self, InvalidSeries(value), plain.points, value, low, high)
        for value in NO_TIMES:
            check_error(self, InvalidWindow((value, 30)), plain.points, LOAD, value, 30)
            check_error(self, InvalidWindow((0, value)), plain.points, LOAD, 0, value)
            check_error(self, InvalidWindow((value, value)), plain.points, HEAT, value, value)
        check_error(self, InvalidWindow((30, 29)), plain.points, LOAD, 30, 29)
        check_error(self, InvalidWindow((3, 2)), plain.points, LOAD, 3, 2)
        for low in (0, 3, 19):
            for high in (low + 1, 20, 99):
                check_error(self, Gone(low, 0), plain.points, LOAD, low, high)
                check_error(self, Gone(low, 0), plain.points, HEAT, low, high)
            self.assertEqual(plain.points(LOAD, low, low), [])
        self.assertEqual(plain.points(LOAD, 20, 20), [])
        self.assertEqual(plain.points(LOAD, 20, 21), [(20, 6)])


class FoldsTest(unittest.TestCase):
    def test_windows(self):
        points = [(3, 5), (4, -2), (7, 9), (8, 1), (15, 4)]
        plain = made(FOR_EVER, *[("put", LOAD, time, value) for time, value in reversed(points)])
        for low, high, step in ((0, 16, 4), (3, 9, 1), (1, 16, 5), (4, 8, 4), (7, 8, 1), (0, 99, 99), (9, 12, 3)):
            wanted = [fold([point for point in points if start <= point[0] < start + step])
                      for start in range(low, high, step)]
            self.assertEqual(plain.folds(LOAD, low, high, step), wanted)
            self.assertEqual(plain.folds(HEAT, low, high, step), [None] * len(wanted))
        self.assertEqual(plain.folds(step=4, high=8, low=4, series=LOAD), [(2, 7, -2, 9, (4, -2), (7, 9))])
        self.assertEqual((plain.folds(LOAD, 8, 8, 3), plain.folds(LOAD, 0, 0, 1)), ([], []))

    def test_400_windows_and_401(self):
        plain = made(FOR_EVER, ("put", LOAD, 799, 3), ("put", LOAD, 7, 1))
        told = plain.folds(LOAD, 0, 800, 2)
        self.assertEqual((len(told), told[3], told[399], told[4]), (400, fold([(7, 1)]), fold([(799, 3)]), None))
        check_error(self, InvalidWindows((0, 802, 2)), plain.folds, LOAD, 0, 802, 2)
        check_error(self, InvalidWindows((5, 406, 1)), plain.folds, LOAD, 5, 406, 1)
        self.assertEqual(len(plain.folds(LOAD, 5, 405, 1)), 400)

    def test_errors_and_their_order(self):
        plain = made(ROWS, ("put", LOAD, 3, 5), ("clock", 30))
        for value in odd_values() + ["load{}", "load", [LOAD], (LOAD,)]:
            for windows in ((20, 30, 1), (0, 9, 3), (9, 0, 3), (None, None, None)):
                check_error(self, InvalidSeries(value), plain.folds, value, *windows)
        wrong = [(value, 30, 1) for value in NO_TIMES] + [(0, value, 1) for value in NO_TIMES] + [
            (20, 30, value) for value in NO_TIMES + [0]] + [
            (30, 29, 1), (8, 4, 4), (8, 4, 2), (0, 9, 4), (0, 3, 4), (1, 4, 2), (0, 0, 0), (8, 8, 0), (3, 2, 1)]
        for windows in wrong:
            check_error(self, InvalidWindows(windows), plain.folds, LOAD, *windows)
            check_error(self, InvalidWindows(windows), plain.folds, HEAT, *windows)

    def test_the_first_window_that_is_not_told(self):
        # At the clock 60 the edges are 52, 40 and 16.
        plain = made(ROWS, *[("put", LOAD, time, time) for time in range(64)], ("clock", 60))
        for windows, error in {(8, 24, 8): Gone(8, 2), (0, 48, 16): Gone(0, 2), (0, 16, 4): Gone(0, 1),
                               (16, 24, 4): Gone(16, 1), (36, 44, 4): Gone(36, 1), (36, 44, 8): Gone(36, 1),
                               (40, 60, 2): Gone(40, 0), (48, 54, 3): Gone(48, 0), (39, 60, 1): Gone(39, 0),
                               (12, 28, 8): Gone(12, 1), (32, 44, 6): Gone(32, 0)}.items():
            check_error(self, error, plain.folds, LOAD, *windows)
            check_error(self, error, plain.folds, HEAT, *windows)
        self.assertEqual(plain.folds(LOAD, 16, 64, 16), [fold([(time, time) for time in range(low, low + 16)])
                                                         for low in (16, 32, 48)])
        self.assertEqual(len(plain.folds(LOAD, 40, 52, 4)), 3)
        self.assertEqual(len(plain.folds(LOAD, 52, 60, 1)), 8)
        check_error(self, Gone(51, 0), plain.folds, LOAD, 51, 60, 1)
        self.assertEqual(plain.folds(LOAD, 0, 0, 1), [])

    def test_windows_behind_drawn_deeds(self):
        draw = Draw(86)
        for _ in range(40):
            rows = drawn_rows(draw)
            plain = made(rows)
            points = {series.text(): {} for series in ALL}
            for _ in range(40):
                self.do_drawn(draw, plain, points)
                self.check_drawn(draw, rows, plain, points)

    def do_drawn(self, draw, plain, points):
        series, edge = draw.one_of(ALL), plain.rules().edge(0, plain.clock())
        word = draw.one_of(["put", "put", "put", "take", "clock"])
        if word == "put":
            time, value = edge + draw.below(20), draw.within(-9, 9)
            plain.do(("put", series, time, value))
            points[series.text()][time] = value
        elif word == "take":
            low = edge + draw.below(20)
            high = low + draw.within(1, 9)
            plain.do(("take", series, low, high))
            for time in range(low, high):
                points[series.text()].pop(time, None)
        else:
            plain.do(("clock", plain.clock() + draw.below(6)))

    def check_drawn(self, draw, rows, plain, points):
        rules, clock = plain.rules(), plain.clock()
        series = draw.one_of(ALL)
        row = sorted(points[series.text()].items())
        length = draw.one_of(rows)[0]
        low, step = draw.below(12) * length, draw.within(1, 3) * length
        high = low + draw.below(4) * step
        try:
            for start in range(low, high, step):
                rules.teller(start, step, clock)
        except Gone as error:
            check_error(self, Gone(error.time, error.grain), plain.folds, series, low, high, step)
        else:
            wanted = [fold([point for point in row if start <= point[0] < start + step])
                      for start in range(low, high, step)]
            self.assertEqual(plain.folds(series, low, high, step), wanted)
        edge = rules.edge(len(rows) - 1, clock)
        texts = sorted(text for text, told in points.items() if any(time >= edge for time in told))
        self.assertEqual([one.text() for one in plain.series()], texts)

    def test_windows_cut_into_windows_and_joined(self):
        draw = Draw(860)
        for _ in range(60):
            plain = made(ROWS)
            for _ in range(30):
                plain.do(("put", LOAD, draw.below(80), draw.within(-9, 9)))
            plain.do(("clock", draw.below(70)))
            for step, cut in ((16, 8), (8, 4), (24, 8), (4, 1), (12, 4), (8, 1)):
                low = 8 * draw.below(6)
                whole = parts = None
                try:
                    parts = plain.folds(LOAD, low, low + step, cut)
                    whole = plain.folds(LOAD, low, low + step, step)
                except Gone:
                    # If the parts are told, the whole is told, too.
                    self.assertIsNone(parts)
                    continue
                together = None
                for part in parts:
                    together = joined(together, part)
                self.assertEqual([together], whole)

    def test_what_is_below_the_edge_never_changes(self):
        plain = made(ROWS, *[("put", LOAD, time, time) for time in range(40)], ("clock", 30))
        before = plain.folds(LOAD, 0, 16, 8)
        plain.do(("put", LOAD, 20, 99))
        plain.do(("take", LOAD, 21, 60))
        for clock in range(30, 64):
            plain.do(("clock", clock))
            for at, low in enumerate((0, 8)):
                # The window at 0 is told ahead of the clock 48, the one at 8 ahead of 56.
                if clock < 48 + low:
                    self.assertEqual(plain.folds(LOAD, low, low + 8, 8), [before[at]])
                else:
                    check_error(self, Gone(low, 2), plain.folds, LOAD, low, low + 8, 8)


class FreeTest(unittest.TestCase):
    def test_what_is_told_is_changed(self):
        plain = made(FOR_EVER, ("put", LOAD, 3, 5), ("put", LOAD, 4, 6))
        for _ in range(2):
            self.assertEqual(plain.points(LOAD, 0, 9), [(3, 5), (4, 6)])
            self.assertEqual(plain.folds(LOAD, 0, 8, 4), [fold([(3, 5)]), fold([(4, 6)])])
            self.assertEqual(plain.series(), [LOAD])
            for told in (plain.points(LOAD, 0, 9), plain.folds(LOAD, 0, 8, 4), plain.series()):
                self.assertIs(type(told), list)
                told.reverse()
                told.append((9, 9))
                told.clear()

    def test_asking_changes_nothing(self):
        plain = made(ROWS, ("put", LOAD, 3, 5), ("put", LOAD, 25, 5), ("clock", 30))
        before = state_of(plain)
        plain.points(HEAT, 20, 40)
        plain.folds(HEAT, 0, 16, 8)
        self.assertEqual(state_of(plain), before)

    def test_lists_of_one_another_are_apart(self):
        rules = Rules(FOR_EVER)
        one, other = Plain(rules), Plain(rules)
        one.do(("put", LOAD, 3, 5))
        one.do(("clock", 9))
        self.assertEqual((other.points(LOAD, 0, 9), other.clock(), other.done()), ([], 0, 0))


if __name__ == "__main__":
    unittest.main()
