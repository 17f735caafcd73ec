"""[71] to [75]: rules, grains, edges, windows and the pieces of windows."""

import unittest

from everygrain.errors import Gone, InvalidRules, InvalidTime, InvalidWindow, NoGrain
from everygrain.grains import Rules
from tests.support import Draw, check_error, check_examples, check_given, odd_values

NO_TIMES = odd_values() + [-1, "3", [3], (3,), 3.0]
LEAST = [(1, 1), (2, 3), (4, 7), (12, 19)]
DOCUMENT = [(1, 8), (4, 20), (8, None)]


class ExamplesTest(unittest.TestCase):
    def test_examples_of_the_interface(self):
        check_examples(self, r"""
>>> from everygrain.grains import Rules
>>> rules = Rules([(1, 8), (4, 20), (8, None)])
>>> [len(rules), rules.rows, rules.length(1), rules.keep(2), rules.step(1), rules.step(2)]
[3, ((1, 8), (4, 20), (8, None)), 4, None, 8, 8]
>>> [rules.edge(0, 30), rules.edge(1, 30), rules.edge(2, 30), rules.edge(0, 7)]
[20, 8, 0, 0]
>>> [rules.stands(0, 19, 27), rules.stands(0, 19, 28), rules.gone_from(0, 19), rules.gone_from(2, 0), rules.cell(1, 19)]
[True, False, 28, None, 16]
>>> [rules.teller(20, 3, 30), rules.teller(8, 4, 30), rules.teller(0, 8, 30), rules.untold_from(4, 4), rules.untold_from(0, 8)]
[0, 1, 2, 28, None]
>>> rules.pieces(0, 24, 30)
[(2, 0, 8), (1, 8, 20), (0, 20, 24)]
>>> rules.teller(4, 4, 30)
raises Gone(4, 1)
>>> Rules([(1, 8), (4, 11)])
raises InvalidRules([(1, 8), (4, 11)])
""")


def drawn_rows(draw):
    """Rows of one to four grains, many of them with the least keeps that are let."""
    rows = [(1, draw.within(1, 6))]
    for _ in range(draw.below(4)):
        length = rows[-1][0] * draw.within(2, 3)
        rows.append((length, rows[-1][1] + length + draw.one_of([0, 0, 1, draw.below(9)])))
    if draw.below(3) == 0:
        rows[-1] = (rows[-1][0], None)
    return rows


def plain_edge(rows, grain, clock):
    """The edge as the document says it, by a search."""
    keep = rows[grain][1]
    if keep is None or keep > clock:
        return 0
    step = rows[grain + 1][0] if grain + 1 < len(rows) else rows[grain][0]
    return max(edge for edge in range(0, clock - keep + 1) if edge % step == 0)


def fitting(rows, low, step):
    return [grain for grain, row in enumerate(rows) if low % row[0] == 0 and step % row[0] == 0]


class RowsTest(unittest.TestCase):
    def test_the_least_keeps_and_one_less(self):
        for many in range(1, 5):
            rows = LEAST[:many]
            for value in (rows, tuple(rows)):
                rules = Rules(value)
                self.assertEqual((rules.rows, len(rules)), (tuple(rows), many))
                self.assertIs(type(rules.rows), tuple)
            for grain in range(many):
                length, keep = rows[grain]
                check_given(self, InvalidRules, Rules, rows[:grain] + [(length, keep - 1)] + rows[grain + 1:])
                check_given(self, InvalidRules, Rules, rows[:grain] + [(length, 0)] + rows[grain + 1:])
        # A keep of the next grain counts its own length, not the one of the grain ahead.
        for length in (2, 3, 100):
            Rules([(1, 5), (length, 5 + length)])
            check_given(self, InvalidRules, Rules, [(1, 5), (length, 4 + length)])
        self.assertEqual(Rules(rows=[(1, 10 ** 12)]).rows, ((1, 10 ** 12),))

    def test_none_stands_last_only(self):
        for many in range(1, 5):
            rows = LEAST[:many]
            for grain in range(many):
                value = rows[:grain] + [(rows[grain][0], None)] + rows[grain + 1:]
                if grain == many - 1:
                    self.assertIsNone(Rules(value).keep(grain))
                else:
                    check_given(self, InvalidRules, Rules, value)
            check_given(self, InvalidRules, Rules, [(length, None) for length, _ in rows] + [(120, None)])

    def test_lengths(self):
        for length in (2, 3, 4, 60):
            self.assertEqual(Rules([(1, 9), (length, 99)]).length(1), length)
            for other in (length * 2, length * 3, length * 100):
                self.assertEqual(Rules([(1, 9), (length, 99), (other, None)]).length(2), other)
            for other in (length, length + 1, 2 * length - 1, 2 * length + 1, 1, 0, -length, -2 * length):
                check_given(self, InvalidRules, Rules, [(1, 9), (length, 99), (other, None)])
                check_given(self, InvalidRules, Rules, [(1, 9), (length, 99), (other, 9999)])
        for length in (0, 2, -1, 7):
            check_given(self, InvalidRules, Rules, [(length, 9)])
        for length in (1, 0, -2):
            check_given(self, InvalidRules, Rules, [(1, 9), (length, 99)])

    def test_no_rows_and_five_rows(self):
        check_given(self, InvalidRules, Rules, [])
        check_given(self, InvalidRules, Rules, ())
        check_given(self, InvalidRules, Rules, LEAST + [(24, 43)])
        check_given(self, InvalidRules, Rules, LEAST + [(24, None)])

    def test_other_values(self):
        for value in odd_values(list, tuple) + [Rules([(1, 2)]), (1, 8), [1, 8], "ab", {(1, 8): 1}, [None], [()]]:
            check_given(self, InvalidRules, Rules, value)
        for row in ([1, 8], (1,), (1, 8, 8), "18", None, (True, 8), (1, True), (1.0, 8), (1, 8.0), ("1", 8), (1, "8"),
                    (None, 8), (1, -1), (-1, 1), (1, 0), (0, 1), (1, False), ((1,), 8), {1: 8}):
            for value in ([row], (row,), [row, (4, None)]):
                check_given(self, InvalidRules, Rules, value)
        for row in ([4, 20], (4,), (4, 20, 20), "42", None, (True, 20), (4, True), (4.0, 20), (4, 20.0), (4, "20")):
            check_given(self, InvalidRules, Rules, [(1, 8), row])
            check_given(self, InvalidRules, Rules, [(1, 8), row, (8, None)])

    def test_what_is_handed_in_is_not_kept(self):
        rows = list(DOCUMENT)
        rules = Rules(rows)
        self.assertEqual(rows, DOCUMENT)
        rows[0] = (1, 9)
        rows.clear()
        self.assertEqual((rules.rows, len(rules), rules.keep(0)), (tuple(DOCUMENT), 3, 8))

    def test_equal(self):
        rules = Rules(DOCUMENT)
        self.assertTrue(rules == Rules(tuple(DOCUMENT)))
        self.assertFalse(rules != Rules(tuple(DOCUMENT)))
        for other in (Rules(DOCUMENT[:2]), Rules([(1, 9)] + DOCUMENT[1:]), Rules([(1, 8), (4, 20), (8, 99)]),
                      Rules([(1, 8), (4, 20), (12, None)]), DOCUMENT, tuple(DOCUMENT), None, 3):
            self.assertFalse(rules == other)
            self.assertTrue(rules != other)

    def test_lengths_keeps_and_steps_of_grains(self):
        rules = Rules(LEAST)
        self.assertEqual([rules.length(grain) for grain in range(4)], [1, 2, 4, 12])
        self.assertEqual([rules.keep(grain) for grain in range(4)], [1, 3, 7, 19])
        self.assertEqual([rules.step(grain) for grain in range(4)], [2, 4, 12, 12])
        self.assertEqual((Rules([(1, None)]).step(0), Rules([(1, 3)]).step(0)), (1, 1))
        self.assertEqual((rules.length(grain=1), rules.keep(grain=1), rules.step(grain=1)), (2, 3, 4))


class NoGrainTest(unittest.TestCase):
    def test_grains_that_are_none(self):
        for rows in (LEAST, DOCUMENT, LEAST[:1]):
            rules = Rules(rows)
            for grain in odd_values() + [-1, len(rows), len(rows) + 1, "0", [0], 0.0, True, False]:
                error = NoGrain(grain)
                for call in (rules.length, rules.keep, rules.step):
                    check_error(self, error, call, grain)
                for time in (0, 5, None, -1, "5"):
                    check_error(self, error, rules.edge, grain, time)
                    check_error(self, error, rules.gone_from, grain, time)
                    check_error(self, error, rules.cell, grain, time)
                    for clock in (0, 9, None, -1):
                        check_error(self, error, rules.stands, grain, time, clock)

    def test_no_times(self):
        for rows in (LEAST, DOCUMENT):
            rules = Rules(rows)
            for grain in range(len(rows)):
                for value in NO_TIMES:
                    error = InvalidTime(value)
                    check_error(self, error, rules.edge, grain, value)
                    check_error(self, error, rules.gone_from, grain, value)
                    check_error(self, error, rules.cell, grain, value)
                    check_error(self, error, rules.stands, grain, 3, value)
                    check_error(self, error, rules.stands, grain, value, 3)
                    # Of two wrong values the time is told, not the clock.
                    check_error(self, error, rules.stands, grain, value, -7)


class EdgesTest(unittest.TestCase):
    def test_clocks_about_a_keep(self):
        rules = Rules([(1, 8), (4, 20), (8, None)])
        self.assertEqual([rules.edge(0, clock) for clock in (0, 7, 8, 11, 12, 15, 16)], [0, 0, 0, 0, 4, 4, 8])
        self.assertEqual([rules.edge(1, clock) for clock in (19, 20, 27, 28, 35, 36)], [0, 0, 0, 8, 8, 16])
        self.assertEqual([rules.edge(2, clock) for clock in (0, 19, 10 ** 12)], [0, 0, 0])
        only = Rules([(1, 3)])
        self.assertEqual([only.edge(0, clock) for clock in (0, 2, 3, 4, 5)], [0, 0, 0, 1, 2])
        self.assertEqual(Rules([(1, None)]).edge(clock=10 ** 12, grain=0), 0)
        # The last grain's edge goes on by its own length.
        last = Rules([(1, 1), (4, 9)])
        self.assertEqual([last.edge(1, clock) for clock in (8, 9, 12, 13, 16, 17)], [0, 0, 0, 4, 4, 8])

    def test_drawn_edges(self):
        draw = Draw(72)
        for _ in range(120):
            rows = drawn_rows(draw)
            rules = Rules(rows)
            before = [0] * len(rows)
            for clock in range(0, 60):
                edges = [rules.edge(grain, clock) for grain in range(len(rows))]
                self.assertEqual(edges, [plain_edge(rows, grain, clock) for grain in range(len(rows))])
                self.assertEqual(edges, sorted(edges, reverse=True))
                for grain, edge in enumerate(edges):
                    self.assertGreaterEqual(edge, before[grain])
                    self.assertTrue(all(edge % row[0] == 0 for row in rows[:grain + 1]))
                before = edges

    def test_stands(self):
        rules = Rules([(1, 8), (4, 20), (8, None)])
        self.assertEqual([rules.stands(0, time, 30) for time in (0, 19, 20, 21, 30, 31, 10 ** 12)],
                         [False, False, True, True, True, True, True])
        self.assertEqual([rules.stands(1, time, 30) for time in (7, 8, 9)], [False, True, True])
        self.assertIs(rules.stands(clock=30, time=0, grain=2), True)
        self.assertIs(rules.stands(0, 5, 0), True)

    def test_gone_from_against_edges(self):
        draw = Draw(73)
        for _ in range(60):
            rows = drawn_rows(draw)
            rules = Rules(rows)
            for grain in range(len(rows)):
                for time in range(0, 25):
                    gone = rules.gone_from(grain, time)
                    self.assertIs(gone is None, rows[grain][1] is None)
                    if gone is None:
                        self.assertTrue(rules.stands(grain, time, 10 ** 12))
                        continue
                    self.assertGreaterEqual(time, rules.edge(grain, gone - 1))
                    self.assertLess(time, rules.edge(grain, gone))
                    for clock in range(0, gone + 8):
                        self.assertIs(rules.stands(grain, time, clock), clock < gone)
        self.assertEqual(Rules(DOCUMENT).gone_from(time=3, grain=0), 12)

    def test_cells(self):
        rules = Rules(LEAST)
        for grain, length in enumerate((1, 2, 4, 12)):
            self.assertEqual([rules.cell(grain, time) for time in range(40)],
                             [max(at for at in range(0, time + 1, length)) for time in range(40)])
        self.assertEqual(rules.cell(time=10 ** 12, grain=3), 10 ** 12 - 10 ** 12 % 12)


def plain_pieces(rows, low, step, clock):
    """The pieces of a told window, time by time."""
    pieces = []
    for time in range(low, low + step):
        grain = min(grain for grain in range(len(rows)) if time >= plain_edge(rows, grain, clock))
        if pieces and pieces[-1][0] == grain:
            pieces[-1] = (grain, pieces[-1][1], time + 1)
        else:
            pieces.append((grain, time, time + 1))
    return pieces


class WindowsTest(unittest.TestCase):
    def check_window(self, rows, low, step, clock):
        rules = Rules(rows)
        fit = fitting(rows, low, step)
        told = [grain for grain in fit if low >= plain_edge(rows, grain, clock)]
        untold = rules.untold_from(low, step)
        self.assertIs(untold is None or clock < untold, bool(told))
        if not told:
            for call in (rules.teller, rules.pieces):
                check_error(self, Gone(low, max(fit)), call, low, step, clock)
            return
        self.assertEqual(rules.teller(low, step, clock), min(told))
        pieces = rules.pieces(low, step, clock)
        self.assertEqual(pieces, plain_pieces(rows, low, step, clock))
        for grain, start, end in pieces:
            self.assertTrue(start < end and start % rows[grain][0] == 0 and end % rows[grain][0] == 0)
        self.assertEqual([pieces[0][1], pieces[-1][2]], [low, low + step])
        grains = [grain for grain, _, _ in pieces]
        self.assertEqual(grains, sorted(set(grains), reverse=True))
        self.assertLessEqual(max(grains), min(told))

    def test_drawn_windows(self):
        draw = Draw(74)
        for _ in range(1500):
            rows = drawn_rows(draw)
            length = draw.one_of(rows)[0]
            low = draw.below(8) * draw.one_of([1, length])
            step = draw.within(1, 6) * draw.one_of([1, length])
            self.check_window(rows, low, step, draw.below(70))

    def test_about_the_clock_from_which_a_window_is_not_told(self):
        draw = Draw(740)
        for _ in range(300):
            rows = drawn_rows(draw)
            length = draw.one_of(rows)[0]
            low, step = draw.below(5) * length, draw.within(1, 4) * length
            untold = Rules(rows).untold_from(low, step)
            for clock in [0, 100] if untold is None else [untold - 1, untold, untold + 1, untold + 50]:
                self.check_window(rows, low, step, clock)

    def test_windows_that_fit_one_some_and_all_grains(self):
        rules = Rules([(1, 8), (4, 20), (8, 40)])
        self.assertEqual([rules.teller(low, step, 0) for low, step in ((1, 1), (4, 4), (8, 16))], [0, 0, 0])
        self.assertEqual([rules.untold_from(low, step) for low, step in ((8, 1), (9, 8), (8, 3), (8, 4), (8, 12), (8, 8))],
                         [20, 20, 20, 36, 36, 56])
        self.assertEqual([rules.teller(8, 8, clock) for clock in (19, 20, 35, 36, 55)], [0, 1, 1, 2, 2])
        self.assertEqual([rules.teller(8, 4, clock) for clock in (19, 20, 35)], [0, 1, 1])
        check_error(self, Gone(8, 2), rules.teller, 8, 8, 56)
        check_error(self, Gone(8, 1), rules.teller, 8, 4, 36)
        check_error(self, Gone(8, 0), rules.teller, 8, 3, 20)
        check_error(self, Gone(8, 0), rules.pieces, 8, 3, 20)
        self.assertEqual(Rules([(1, None)]).untold_from(0, 1), None)
        self.assertEqual((rules.teller(step=8, clock=36, low=8), rules.untold_from(step=8, low=8)), (2, 56))
        self.assertEqual(rules.pieces(clock=36, step=16, low=8), [(2, 8, 16), (1, 16, 24)])

    def test_pieces_at_edges(self):
        rules = Rules([(1, 8), (4, 20), (8, 40)])
        # At the clock 40 the edges are 32, 16 and 0.
        self.assertEqual([rules.edge(grain, 40) for grain in range(3)], [32, 16, 0])
        for window, pieces in {(32, 5): [(0, 32, 37)], (31 + 9, 1): [(0, 40, 41)], (28, 4): [(1, 28, 32)],
                               (16, 16): [(1, 16, 32)], (16, 20): [(1, 16, 32), (0, 32, 36)], (0, 16): [(2, 0, 16)],
                               (8, 24): [(2, 8, 16), (1, 16, 32)], (0, 64): [(2, 0, 16), (1, 16, 32), (0, 32, 64)],
                               (0, 24): [(2, 0, 16), (1, 16, 24)]}.items():
            self.assertEqual(rules.pieces(*window, 40), pieces)
        self.assertEqual(Rules([(1, 1), (2, 3), (4, None)]).pieces(0, 8, 7), [(2, 0, 4), (1, 4, 6), (0, 6, 8)])
        # At the clock 12 the edges are 10, 8, 0 and 0: a grain with the edge of a shorter one tells no piece.
        rules = Rules([(1, 2), (2, 4), (4, 8), (8, 16)])
        self.assertEqual(rules.pieces(0, 16, 12), [(2, 0, 8), (1, 8, 10), (0, 10, 16)])
        self.assertEqual(rules.pieces(0, 8, 12), [(2, 0, 8)])
        self.assertEqual(rules.pieces(0, 8, 5), [(1, 0, 2), (0, 2, 8)])

    def test_no_windows_and_no_clocks(self):
        rules = Rules(DOCUMENT)
        wrong = [(low, 4) for low in NO_TIMES] + [(4, step) for step in NO_TIMES + [0]] + [(None, None), (-1, 0)]
        for low, step in wrong:
            error = InvalidWindow((low, step))
            check_error(self, error, rules.untold_from, low, step)
            for clock in (0, 30, None, -1):
                check_error(self, error, rules.teller, low, step, clock)
                check_error(self, error, rules.pieces, low, step, clock)
        for clock in NO_TIMES:
            for call in (rules.teller, rules.pieces):
                check_error(self, InvalidTime(clock), call, 4, 4, clock)

    def test_greater_keeps_tell_more(self):
        draw = Draw(75)
        for _ in range(150):
            rows = drawn_rows(draw)
            more = [(length, keep) for length, keep in rows]
            add = 0
            for grain, (length, keep) in enumerate(rows):
                add += draw.below(5)
                more[grain] = (length, None if keep is None else keep + add)
            if draw.below(3) == 0:
                more[-1] = (more[-1][0], None)
            one, other = Rules(rows), Rules(more)
            for clock in range(0, 60, 3):
                for grain in range(len(rows)):
                    self.assertLessEqual(other.edge(grain, clock), one.edge(grain, clock))
                low, step = draw.below(6) * draw.one_of(rows)[0], draw.within(1, 4) * draw.one_of(rows)[0]
                if one.untold_from(low, step) is None or clock < one.untold_from(low, step):
                    other.teller(low, step, clock)

    def test_what_is_told_is_free(self):
        rules = Rules(DOCUMENT)
        rules.pieces(0, 24, 30).clear()
        self.assertEqual(rules.pieces(0, 24, 30), [(2, 0, 8), (1, 8, 20), (0, 20, 24)])


if __name__ == "__main__":
    unittest.main()
