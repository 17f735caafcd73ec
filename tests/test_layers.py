"""[91] to [96]: layers."""

import itertools
import unittest

from everygrain.errors import InvalidDeed, InvalidLayers, InvalidSeries, InvalidTime, InvalidTruth, InvalidWindow
from everygrain.grains import Rules
from everygrain.layers import Layer, above, laid, laid_at, merged
from everygrain.plain import Plain
from everygrain.series import Series, in_order
from tests.support import Draw, check_error, check_examples, odd_values

LOAD, HEAT = Series("load", {"host": "a"}), Series("heat")
ALL = [LOAD, HEAT, Series("load")]
NO_TIMES = odd_values() + [-1, "3", [3], 3.0]
NO_SERIES = odd_values() + ["load{}", "load", 3, [LOAD], (LOAD,), Series]
SPAN = 14


class ExamplesTest(unittest.TestCase):
    def test_examples_of_the_interface(self):
        check_examples(self, r"""
>>> from everygrain.layers import Layer, above, laid, laid_at, merged
>>> from everygrain.series import Series
>>> load, one, two = Series("load"), Layer(), Layer()
>>> one.put(load, 2, 5)
>>> one.put(load, 7, 1)
>>> two.take(load, 0, 4)
>>> two.take(load, 4, 6)
>>> two.put(load, 3, 9)
>>> [one.look(load, 2), two.look(load, 2), two.look(load, 3), two.look(load, 7), two.taken(load)]
[('point', 5), ('taken',), ('point', 9), ('open',), [(0, 6)]]
>>> [laid([one, two], load, 0, 9), laid([two, one], load, 0, 7), laid_at([one, two], load, 2), laid_at([one, two], load, 7)]
[[(3, 9), (7, 1)], [(2, 5), (3, 9)], None, 1]
>>> both = merged(one, two)
>>> [both.points(load), both.taken(load), merged(one, two, True).taken(load), merged(both, Layer()) == both]
[[(3, 9), (7, 1)], [(0, 6)], [], True]
>>> [above(both, 4).points(load), above(both, 4).taken(load), above(both, 8).is_empty()]
[[(7, 1)], [(4, 6)], True]
>>> above(both, -1)
raises InvalidTime(-1)
""")


def do(layer, deed):
    if deed[0] == "put":
        return layer.put(*deed[1:])
    return layer.take(*deed[1:])


def layer_of(*deeds):
    layer = Layer()
    for deed in deeds:
        do(layer, deed)
    return layer


def put(time, value=1, series=LOAD):
    return "put", series, time, value


def take(low, high, series=LOAD):
    return "take", series, low, high


def drawn_deeds(draw, many):
    deeds = []
    for _ in range(many):
        series = draw.one_of(ALL)
        if draw.below(3) == 0:
            low = draw.below(SPAN - 1)
            deeds.append(take(low, min(SPAN, low + draw.within(1, 5)), series))
        else:
            deeds.append(put(draw.below(SPAN), draw.within(-3, 3), series))
    return deeds


class PlainLayer:
    """A layer time by time: its points, and the times that were taken."""

    def __init__(self, deeds):
        self.points, self.taken = {}, set()
        for word, series, *rest in deeds:
            text = series.text()
            if word == "put":
                self.points[text, rest[0]] = rest[1]
                continue
            for time in range(*rest):
                self.points.pop((text, time), None)
                self.taken.add((text, time))

    def look(self, series, time):
        key = series.text(), time
        if key in self.points:
            return ("point", self.points[key])
        return ("taken",) if key in self.taken else ("open",)

    def points_of(self, series):
        return sorted((time, value) for (text, time), value in self.points.items() if text == series.text())

    def stretches_of(self, series):
        times = sorted(time for text, time in self.taken if text == series.text())
        rows = []
        for time in times:
            if rows and rows[-1][1] == time:
                rows[-1] = (rows[-1][0], time + 1)
            else:
                rows.append((time, time + 1))
        return rows

    def series(self):
        texts = {text for text, _ in self.points} | {text for text, _ in self.taken}
        return [series for series in in_order(ALL) if series.text() in texts]


def state_of(layer):
    return [(series.text(), tuple(layer.points(series)), tuple(layer.taken(series))) for series in layer.series()]


class LayerTest(unittest.TestCase):
    def test_empty(self):
        layer = Layer()
        self.assertEqual((layer.series(), layer.is_empty(), layer.points(LOAD), layer.taken(LOAD)), ([], True, [], []))
        self.assertEqual(layer.look(LOAD, 0), ("open",))

    def test_puts_and_takes(self):
        layer = Layer()
        self.assertIsNone(layer.put(LOAD, 5, 1))
        self.assertIsNone(layer.put(series=LOAD, time=3, value=-2))
        self.assertEqual((layer.points(LOAD), layer.taken(LOAD), layer.is_empty()), ([(3, -2), (5, 1)], [], False))
        layer.put(LOAD, 5, 7)
        self.assertEqual(layer.points(series=LOAD), [(3, -2), (5, 7)])
        self.assertIsNone(layer.take(LOAD, 5, 6))
        self.assertIsNone(layer.take(series=HEAT, low=0, high=9))
        self.assertEqual((layer.points(LOAD), layer.taken(series=LOAD)), ([(3, -2)], [(5, 6)]))
        self.assertEqual((layer.points(HEAT), layer.taken(HEAT)), ([], [(0, 9)]))
        # A put behind a take stands, and the stretch stays.
        layer.put(LOAD, 5, 4)
        self.assertEqual((layer.points(LOAD), layer.taken(LOAD)), ([(3, -2), (5, 4)], [(5, 6)]))
        layer.take(LOAD, 0, 99)
        self.assertEqual((layer.points(LOAD), layer.taken(LOAD)), ([], [(0, 99)]))
        self.assertEqual(layer.series(), [HEAT, LOAD])

    def test_stretches(self):
        for stretches, told in (
                ([(0, 2), (2, 4)], [(0, 4)]), ([(2, 4), (0, 2)], [(0, 4)]), ([(0, 2), (3, 4)], [(0, 2), (3, 4)]),
                ([(3, 4), (0, 2)], [(0, 2), (3, 4)]), ([(0, 9), (3, 4)], [(0, 9)]), ([(3, 4), (0, 9)], [(0, 9)]),
                ([(0, 5), (3, 8)], [(0, 8)]), ([(3, 8), (0, 5)], [(0, 8)]), ([(1, 3), (5, 7), (3, 5)], [(1, 7)]),
                ([(1, 3), (5, 7), (9, 11), (2, 10)], [(1, 11)]), ([(1, 3), (5, 7), (9, 11), (4, 8)], [(1, 3), (4, 8), (9, 11)]),
                ([(1, 3), (1, 3)], [(1, 3)]), ([(1, 3), (1, 5)], [(1, 5)]), ([(2, 5), (1, 5)], [(1, 5)]),
                ([(0, 10 ** 12), (10 ** 12, 10 ** 12 + 1)], [(0, 10 ** 12 + 1)])):
            for row in itertools.permutations(stretches):
                self.assertEqual(layer_of(*[take(*stretch) for stretch in row]).taken(LOAD), told)

    def test_look_at_the_ends_of_a_stretch(self):
        layer = layer_of(take(3, 6), take(8, 9), put(4, 7), put(6, 8))
        self.assertEqual([layer.look(LOAD, time) for time in range(2, 10)], [
            ("open",), ("taken",), ("point", 7), ("taken",), ("point", 8), ("open",), ("taken",), ("open",)])
        self.assertEqual(layer.look(time=3, series=HEAT), ("open",))
        self.assertEqual(layer.look(Series("load", [("host", "a")]), 4), ("point", 7))

    def test_drawn_layers(self):
        draw = Draw(91)
        for _ in range(150):
            deeds = drawn_deeds(draw, draw.below(12))
            layer, plain = layer_of(*deeds), PlainLayer(deeds)
            self.assertEqual([one.text() for one in layer.series()], [one.text() for one in plain.series()])
            self.assertEqual(layer.is_empty(), not deeds)
            for series in ALL:
                self.assertEqual(layer.points(series), plain.points_of(series))
                self.assertEqual(layer.taken(series), plain.stretches_of(series))
                self.assertLessEqual(len(layer.taken(series)), len([deed for deed in deeds if deed[0] == "take"]))
                for time in range(SPAN + 1):
                    self.assertEqual(layer.look(series, time), plain.look(series, time))

    def test_refusals(self):
        layer = layer_of(put(3, 5), take(6, 9))
        before = state_of(layer)
        for series, time, value in [(one, 3, 5) for one in NO_SERIES] + [(LOAD, time, 5) for time in NO_TIMES] + [
                (LOAD, 3, value) for value in odd_values() + ["5", 5.0, [5]]] + [(None, None, None)]:
            check_error(self, InvalidDeed(("put", series, time, value)), layer.put, series, time, value)
        for series, low, high in [(one, 3, 5) for one in NO_SERIES] + [(LOAD, low, 5) for low in NO_TIMES] + [
                (LOAD, 3, high) for high in NO_TIMES] + [(LOAD, 3, 3), (LOAD, 4, 3), (LOAD, 0, 0), (HEAT, 9, 0)]:
            check_error(self, InvalidDeed(("take", series, low, high)), layer.take, series, low, high)
        for value in NO_SERIES:
            check_error(self, InvalidSeries(value), layer.points, value)
            check_error(self, InvalidSeries(value), layer.taken, value)
            for time in (3, -1, None):
                check_error(self, InvalidSeries(value), layer.look, value, time)
        for value in NO_TIMES:
            check_error(self, InvalidTime(value), layer.look, LOAD, value)
        self.assertEqual(state_of(layer), before)

    def test_equal(self):
        # Unlike deeds, equal layers.
        for one, other in (([], []), ([put(1, 2), put(1, 3)], [put(1, 3)]), ([put(1), put(2)], [put(2), put(1)]),
                           ([take(0, 3), take(3, 5)], [take(0, 5)]), ([put(1), take(0, 5)], [take(0, 5)]),
                           ([take(0, 5), put(7)], [put(7), take(0, 5)]),
                           ([put(1, 2, HEAT), put(1)], [put(1), put(1, 2, HEAT)])):
            self.assertTrue(layer_of(*one) == layer_of(*other))
            self.assertFalse(layer_of(*one) != layer_of(*other))
        layer = layer_of(put(1), take(3, 5))
        for other in (Layer(), layer_of(put(1)), layer_of(take(3, 5)), layer_of(put(1, 2), take(3, 5)),
                      layer_of(put(2), take(3, 5)), layer_of(put(1), take(3, 6)), layer_of(put(1), take(2, 5)),
                      layer_of(put(1, 1, HEAT), take(3, 5, HEAT)), layer_of(put(1), take(3, 5, HEAT)),
                      layer_of(put(1), take(3, 5), put(0, 0, HEAT)), layer_of(put(1), take(3, 5), take(0, 1, HEAT)),
                      layer_of(take(1, 2), put(1), take(3, 5)), None, 3, [put(1), take(3, 5)]):
            self.assertFalse(layer == other)
            self.assertTrue(layer != other)

    def test_copied(self):
        for deeds in ([], [put(1), take(3, 5), put(4, 4, HEAT), take(1, 2, HEAT)]):
            layer = layer_of(*deeds)
            copied = layer.copied()
            self.assertTrue(layer == copied)
            before = state_of(layer)
            for deed in (put(1, 9), take(0, 9), put(8, 8, HEAT), put(2, 2, ALL[2])):
                do(copied, deed)
            self.assertEqual(state_of(layer), before)
            self.assertFalse(layer == copied)
            other = layer.copied()
            do(layer, take(0, 99))
            do(layer, put(5, 5))
            self.assertEqual(state_of(other), before)

    def test_what_is_told_is_free(self):
        layer = layer_of(put(1), take(3, 5), put(2))
        before = state_of(layer)
        for told in (layer.points(LOAD), layer.taken(LOAD), layer.series(), layer.points(HEAT), layer.taken(HEAT)):
            self.assertIs(type(told), list)
            told.reverse()
            told.append((7, 8))
        self.assertEqual(state_of(layer), before)
        self.assertEqual((layer.taken(HEAT), layer.points(HEAT)), ([], []))

    def test_asking_makes_no_series(self):
        layer = Layer()
        layer.look(LOAD, 3)
        layer.points(LOAD)
        layer.taken(LOAD)
        self.assertTrue(layer.is_empty() and layer == Layer() and layer.series() == [])


def cut_into_layers(draw, deeds):
    """The layers of a row of deeds, with new ones begun anywhere, also such as stay empty."""
    layers = [Layer() for _ in range(draw.below(2))]
    for deed in deeds:
        while not layers or draw.below(3) == 0:
            layers.append(Layer())
        do(layers[-1], deed)
    return layers + [Layer() for _ in range(draw.below(2))]


def all_laid(layers):
    return [laid(layers, series, 0, SPAN + 1) for series in ALL]


class LaidTest(unittest.TestCase):
    def check_against_plain(self, layers, deeds):
        plain = Plain(Rules([(1, None)]))
        for deed in deeds:
            plain.do(deed)
        for series in ALL:
            points = plain.points(series, 0, SPAN)
            self.assertEqual(laid(layers, series, 0, SPAN), points)
            self.assertEqual([laid_at(layers, series, time) for time in range(SPAN + 1)],
                             [dict(points).get(time) for time in range(SPAN + 1)])
            for low, high in itertools.combinations_with_replacement(range(0, SPAN, 3), 2):
                self.assertEqual(laid(tuple(layers), series, low, high), plain.points(series, low, high))

    def test_rows_of_layers(self):
        self.check_against_plain([], [])
        self.check_against_plain([Layer()], [])
        draw = Draw(94)
        for _ in range(120):
            deeds = drawn_deeds(draw, draw.below(16))
            self.check_against_plain([layer_of(*deeds)], deeds)
            self.check_against_plain(cut_into_layers(draw, deeds), deeds)
            self.check_against_plain([layer_of(deed) for deed in deeds], deeds)

    def test_no_layers_no_series_no_times(self):
        layers = [layer_of(put(3, 5)), layer_of(take(6, 9))]
        wrong = odd_values(list, tuple) + [layers[0], layers + [None], [None], [layers], ["layer"], [Layer], {1: layers[0]},
                                           (layers[0], 3)]
        for value in wrong:
            for series in (LOAD, None):
                check_error(self, InvalidLayers(value), laid_at, value, series, 3)
                check_error(self, InvalidLayers(value), laid_at, value, series, -1)
                check_error(self, InvalidLayers(value), laid, value, series, 0, 9)
                check_error(self, InvalidLayers(value), laid, value, series, 9, 0)
        for given in (layers, []):
            for value in NO_SERIES:
                check_error(self, InvalidSeries(value), laid_at, given, value, 3)
                check_error(self, InvalidSeries(value), laid_at, given, value, None)
                check_error(self, InvalidSeries(value), laid, given, value, 0, 9)
                check_error(self, InvalidSeries(value), laid, given, value, None, 9)
            for value in NO_TIMES:
                check_error(self, InvalidTime(value), laid_at, given, LOAD, value)
                check_error(self, InvalidWindow((value, 9)), laid, given, LOAD, value, 9)
                check_error(self, InvalidWindow((0, value)), laid, given, LOAD, 0, value)
            check_error(self, InvalidWindow((4, 3)), laid, given, LOAD, 4, 3)
            self.assertEqual(laid(given, LOAD, 3, 3), [])
            self.assertEqual(laid(given, LOAD, 0, 0), [])
        self.assertEqual(laid(high=9, low=0, series=LOAD, layers=layers), [(3, 5)])
        self.assertEqual(laid_at(time=3, series=LOAD, layers=layers), 5)

    def test_a_value_that_is_nothing_much(self):
        self.assertEqual(laid_at([layer_of(put(3, 7)), layer_of(put(3, 0))], LOAD, 3), 0)
        self.assertIsNone(laid_at([layer_of(put(3, 7)), layer_of(take(3, 4))], LOAD, 3))


class MergedTest(unittest.TestCase):
    def test_points_and_stretches(self):
        older = layer_of(put(1, 1), put(4, 4), put(6, 6), take(8, 10), put(9, 9), put(1, 1, HEAT))
        newer = layer_of(take(3, 5), put(6, 7), take(10, 12), put(2, 2, ALL[2]), take(7, 8, HEAT))
        both = merged(older, newer)
        self.assertEqual((both.points(LOAD), both.taken(LOAD)), ([(1, 1), (6, 7), (9, 9)], [(3, 5), (8, 12)]))
        self.assertEqual((both.points(HEAT), both.taken(HEAT)), ([(1, 1)], [(7, 8)]))
        self.assertEqual(both.points(ALL[2]), [(2, 2)])
        deepest = merged(older, newer, deepest=True)
        for series in ALL:
            self.assertEqual((deepest.points(series), deepest.taken(series)), (both.points(series), []))
        self.assertTrue(merged(older, newer, False) == both)
        self.assertTrue(merged(deepest=True, newer=newer, older=older) == deepest)
        # Nothing is left of a series that was only taken.
        only = merged(layer_of(put(3)), layer_of(take(0, 9), put(1, 1, HEAT)), True)
        self.assertEqual((only.series(), only.points(LOAD)), ([HEAT], []))
        self.assertTrue(merged(layer_of(put(3)), layer_of(take(0, 9)), True).is_empty())
        self.assertTrue(merged(Layer(), layer_of(take(0, 9)), True) == Layer())

    def test_cut_anywhere(self):
        draw = Draw(95)
        for _ in range(100):
            deeds = drawn_deeds(draw, draw.below(12))
            whole = layer_of(*deeds)
            for at in range(len(deeds) + 1):
                older, newer = layer_of(*deeds[:at]), layer_of(*deeds[at:])
                before = state_of(older), state_of(newer)
                both = merged(older, newer)
                self.assertTrue(both == whole)
                self.assertEqual(all_laid([merged(older, newer, True)]), all_laid([whole]))
                self.assertEqual((state_of(older), state_of(newer)), before)
                # The new one is its own.
                do(both, take(0, SPAN))
                do(both, put(5, 99))
                self.assertEqual((state_of(older), state_of(newer)), before)

    def test_in_any_order(self):
        draw = Draw(950)
        for _ in range(150):
            layers = cut_into_layers(draw, drawn_deeds(draw, draw.within(1, 12)))
            wanted, whole = all_laid(layers), None
            for layer in layers:
                whole = layer if whole is None else merged(whole, layer)
            row, deepest = list(layers), list(layers)
            while len(row) > 1:
                at = draw.below(len(row) - 1)
                row[at:at + 2] = [merged(row[at], row[at + 1])]
                deepest[at:at + 2] = [merged(deepest[at], deepest[at + 1], at == 0)]
                self.assertEqual(all_laid(row), wanted)
                self.assertEqual(all_laid(deepest), wanted)
            self.assertTrue(row[0] == whole)
            if len(layers) > 1:
                self.assertTrue(all(deepest[0].taken(series) == [] for series in ALL))

    def test_not_the_deepest_hides_what_lies_beneath(self):
        bottom, older, newer = layer_of(put(3, 5)), layer_of(put(4, 6)), layer_of(take(0, 9))
        self.assertEqual(laid([bottom, merged(older, newer)], LOAD, 0, 9), [])
        self.assertEqual(laid([bottom, merged(older, newer, True)], LOAD, 0, 9), [(3, 5)])

    def test_no_layers_and_no_truth(self):
        layer = layer_of(put(3, 5))
        for value in odd_values() + [[layer], (layer,), Layer, LOAD]:
            for one, other in ((value, layer), (layer, value), (value, value)):
                check_error(self, InvalidLayers((one, other)), merged, one, other)
                check_error(self, InvalidLayers((one, other)), merged, one, other, True)
                check_error(self, InvalidLayers((one, other)), merged, one, other, 1)
        for value in odd_values(bool) + [0, 1, "True", [True]]:
            check_error(self, InvalidTruth(value), merged, layer, layer, value)
            check_error(self, InvalidTruth(value), merged, layer, layer, deepest=value)


class AboveTest(unittest.TestCase):
    def test_within_at_the_ends_of_and_between_stretches(self):
        layer = layer_of(take(2, 5), take(7, 9), put(1, 1), put(4, 4), put(5, 5), put(9, 9))
        for edge, points, taken in ((0, [1, 4, 5, 9], [(2, 5), (7, 9)]), (2, [4, 5, 9], [(2, 5), (7, 9)]),
                                    (3, [4, 5, 9], [(3, 5), (7, 9)]), (4, [4, 5, 9], [(4, 5), (7, 9)]),
                                    (5, [5, 9], [(7, 9)]), (6, [9], [(7, 9)]), (7, [9], [(7, 9)]),
                                    (8, [9], [(8, 9)]), (9, [9], []), (10, [], [])):
            rest = above(layer, edge)
            self.assertEqual((rest.points(LOAD), rest.taken(LOAD)), ([(time, time) for time in points], taken))
            self.assertEqual(rest.is_empty(), edge == 10)
        self.assertTrue(above(layer, 0) == layer)
        self.assertTrue(above(edge=3, layer=layer) == above(layer, 3))
        self.assertEqual(above(Layer(), 5).series(), [])
        two = layer_of(put(3, 3), put(8, 8, HEAT), take(0, 4, ALL[2]))
        self.assertEqual(above(two, 4).series(), [HEAT])

    def test_what_is_cut_stays(self):
        layer = layer_of(take(2, 5), put(3, 3), put(8, 8))
        before = state_of(layer)
        rest = above(layer, 0)
        do(rest, take(0, 99))
        do(rest, put(1, 1))
        self.assertEqual(state_of(layer), before)

    def test_laid_as_before_from_the_edge_on(self):
        draw = Draw(96)
        for _ in range(100):
            layers = cut_into_layers(draw, drawn_deeds(draw, draw.below(14)))
            for edge in range(0, SPAN + 2, 2):
                some = [above(layer, edge) if draw.below(2) else layer for layer in layers]
                for series in ALL:
                    self.assertEqual(laid(some, series, edge, SPAN + 2), laid(layers, series, edge, SPAN + 2))

    def test_cut_and_merged_or_merged_and_cut(self):
        draw = Draw(960)
        for _ in range(100):
            older, newer = layer_of(*drawn_deeds(draw, draw.below(8))), layer_of(*drawn_deeds(draw, draw.below(8)))
            for edge in range(SPAN + 2):
                for deepest in (False, True):
                    one = merged(above(older, edge), above(newer, edge), deepest)
                    self.assertTrue(one == above(merged(older, newer, deepest), edge))

    def test_no_layers_and_no_times(self):
        layer = layer_of(put(3, 5))
        for value in odd_values() + [[layer], (layer,), Layer, LOAD]:
            for edge in (3, -1, None):
                check_error(self, InvalidLayers(value), above, value, edge)
        for value in NO_TIMES:
            check_error(self, InvalidTime(value), above, layer, value)


if __name__ == "__main__":
    unittest.main()
