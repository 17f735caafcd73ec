"""[101] to [105]: cells and blocks."""

import unittest

from everygrain.blocks import cells_block, directory, is_cells, layer_block, read_block, read_part
from everygrain.errors import (
    InvalidBlock, InvalidCells, InvalidCount, InvalidLayers, InvalidOctets, InvalidSeries, NoSeries)
from everygrain.folds import fold, fold_of
from everygrain.layers import Layer
from everygrain.octets import frame, number_octets, signed_octets, text_octets
from everygrain.packs import pack, pack_times
from everygrain.series import Series, in_order, read_series
from everygrain.ways import told_in
from tests.support import Draw, check_error, check_examples, check_given, odd_values

A, B, LOAD = Series("a"), Series("b"), Series("load", {"host": "a", "zone": "x"})
ALL = [A, B, LOAD, Series("load2"), Series("load", {"host": "b"})]
NO_LENGTHS = odd_values() + [0, -1, -8, "8", [8], 8.0]
ONE = (1, 5, 5, 5, (9, 5), (9, 5))
LONGEST = Series("n" * 24, {"k" * 23 + sign: "w" * 24 for sign in "abcdef"})


class ExamplesTest(unittest.TestCase):
    def test_examples_of_the_interface(self):
        check_examples(self, r"""
>>> from everygrain.blocks import cells_block, directory, is_cells, layer_block, read_block, read_part
>>> from everygrain.layers import Layer
>>> from everygrain.series import Series
>>> layer = Layer()
>>> layer.take(Series("b"), 2, 5)
>>> layer.put(Series("a"), 3, 7)
>>> octets = layer_block(layer)
>>> octets
[1, 0, 0, 0, 9, 3, 97, 123, 125, 1, 3, 0, 14, 0, 110, 155, 9, 3, 98, 123, 125, 0, 0, 1, 2, 3, 99, 128, 0, 0, 0]
>>> [read_block(octets)[1] == layer, directory(octets), read_part(octets, Series("a")).points(Series("a"))]
[True, [('a{}', 5, 14), ('b{}', 17, 26)], [(3, 7)]]
>>> cells = {"a{}": [(8, (2, 3, -2, 5, (9, 5), (12, -2)))]}
>>> [is_cells(8, cells), is_cells(3, cells), is_cells(4, cells)]
[True, False, False]
>>> cells_block(8, cells)
[2, 1, 8, 9, 10, 14, 3, 97, 123, 125, 1, 8, 2, 6, 3, 7, 1, 10, 3, 3, 136, 38, 0, 0, 0]
>>> read_block(cells_block(8, cells))
('cells', 8, {'a{}': [(8, (2, 3, -2, 5, (9, 5), (12, -2)))]})
>>> read_part(octets, Series("c"))
raises NoSeries
>>> read_block([1, 0, 0, 0])
raises InvalidBlock([1, 0, 0, 0])
""")


def drawn_layer(draw, series=ALL, many=12, width=10 ** 6):
    layer = Layer()
    for _ in range(draw.below(many)):
        one, time = draw.one_of(series), draw.below(width)
        if draw.below(3) == 0:
            layer.take(one, time, time + draw.within(1, draw.one_of([3, width])))
        else:
            layer.put(one, time, draw.within(-width, width))
    return layer


def drawn_cells(draw, length, series=ALL):
    cells = {}
    for one in series:
        row = []
        beginning = length * draw.below(4)
        for _ in range(draw.below(4)):
            times = sorted({beginning + draw.below(length) for _ in range(draw.within(1, 6))})
            row.append((beginning, fold([(time, draw.within(-500, 500)) for time in times])))
            beginning += length * draw.within(1, 3)
        if row:
            cells[one.text()] = row
    return cells


def plain_block(kind, payloads):
    """A block as plainly as can be."""
    octets = frame(kind)
    for payload in payloads:
        octets += frame(payload)
    return octets + [0, 0, 0]


def layer_payload(text, points, stretches):
    octets = text_octets(text) + pack(points) + number_octets(len(stretches))
    for low, high in stretches:
        octets += number_octets(low) + number_octets(high - low)
    return octets


def cells_payload(text, cells):
    octets = text_octets(text) + pack_times([beginning for beginning, _ in cells])
    for beginning, (count, total, least, greatest, first, last) in cells:
        octets += number_octets(count) + signed_octets(total) + signed_octets(least)
        octets += number_octets(greatest - least) + number_octets(first[0] - beginning) + signed_octets(first[1])
        octets += number_octets(last[0] - first[0]) + signed_octets(last[1])
    return octets


class IsCellsTest(unittest.TestCase):
    def test_cells(self):
        two = fold([(8, 3), (15, -4)])
        for length, value in ((8, {}), (1, {}), (10 ** 12, {}), (8, {"a{}": [(8, ONE)]}), (8, {"a{}": ((8, ONE),)}),
                              (8, {"a{}": [(0, fold([(0, 1), (7, 2)])), (8, two), (24, fold([(31, 0)]))]}),
                              (8, {LOAD.text(): [(8, two)], "a{}": [(8, ONE)]}), (1, {"a{}": [(9, ONE)]}),
                              (4, {LONGEST.text(): [(10 ** 12, fold([(10 ** 12 + 3, 10 ** 12)]))]}),
                              (400, {"a{}": [(0, fold([(time, time) for time in range(400)]))]})):
            self.assertIs(is_cells(length, value), True, value)
        self.assertIs(is_cells(value={}, length=3), True)

    def test_no_cells(self):
        odd = odd_values(dict) + [[], [("a{}", [(8, ONE)])], "a{}", Layer(), [{"a{}": [(8, ONE)]}]]
        rows = odd_values() + [
            [], (), [()], [(8,)], [(8, ONE, 1)], [[8, ONE]], (8, ONE), [8, ONE], [(8, None)], [(8, list(ONE))],
            [(8, (2, 3, 1, 2, (9, 1), (9, 2)))], [(8, fold_of([[(9, 1)], [(9, 2)]]))], [(8, ONE[:5])],
            [(8, fold_of([[(9, 1), (11, 1)], [(9, 2), (10, 5), (11, 7)]]))], [(8, (1, 5, 5, 6, (9, 5), (9, 5)))],
            [(8, ONE), (8, ONE)], [(16, fold([(17, 1)])), (8, ONE)], [(8, ONE), None], [(8, ONE), (16, None)],
            [(9, ONE)], [(7, ONE)], [(4, ONE)], [(12, fold([(13, 1)]))], [(-8, fold([(0, 1)]))], [(0, ONE)], [(16, ONE)],
            [(8, fold([(7, 1)]))], [(8, fold([(7, 1), (9, 1)]))], [(8, fold([(16, 1)]))], [(8, fold([(9, 1), (16, 1)]))],
            [(True, ONE)], [(8.0, ONE)], [("8", ONE)], [(None, ONE)], {8: ONE}, [{8: ONE}],
            [(8, {"count": 1})], [(0, (1, 5, 5, 5, (-1, 5), (-1, 5)))]]
        keys = ["", "a", "a{", "{}", "A{}", "a{} ", "a{zone=x,host=a}", "a{b=1,b=1}", "a{name=b}", "9{}", "a{b=}", 1, 0,
                None, True, ("a", ()), b"a{}"]
        wrong = odd + [{"a{}": row} for row in rows] + [{"b{}": [(8, ONE)], "a{}": row} for row in rows] + [
            {key: [(8, ONE)]} for key in keys] + [{"a{}": [(8, ONE)], key: [(8, ONE)]} for key in keys]
        for value in wrong:
            self.assertIs(is_cells(8, value), False, value)
            check_error(self, InvalidCells(value), cells_block, 8, value)

    def test_the_ends_of_a_cell(self):
        for first in range(6, 18):
            for last in range(first, 18):
                points = [(first, 1), (last, 2)][:1 + (last > first)]
                self.assertIs(is_cells(8, {"a{}": [(8, fold(points))]}), 8 <= first and last < 16)

    def test_lengths_that_are_none(self):
        for value in NO_LENGTHS:
            for cells in ({}, {"a{}": [(8, ONE)]}, None, []):
                check_error(self, InvalidCount(value), is_cells, value, cells)
                check_error(self, InvalidCount(value), cells_block, value, cells)


class BlocksTest(unittest.TestCase):
    def test_empty(self):
        self.assertEqual(layer_block(layer=Layer()), [1, 0, 0, 0, 0, 0, 0])
        self.assertEqual(cells_block(cells={}, length=8), [2, 1, 8, 9, 10, 0, 0, 0])
        self.assertEqual(cells_block(300, {}), frame([1, 172, 2]) + [0, 0, 0])
        word, layer = read_block(octets=[1, 0, 0, 0, 0, 0, 0])
        self.assertTrue(word == "layer" and layer == Layer())
        self.assertEqual(read_block((2, 1, 8, 9, 10, 0, 0, 0)), ("cells", 8, {}))
        self.assertEqual(directory(octets=[1, 0, 0, 0, 0, 0, 0]), [])
        self.assertEqual(directory((2, 1, 8, 9, 10, 0, 0, 0)), [])

    def test_layers_by_own_octets(self):
        draw = Draw(102)
        for _ in range(150):
            layer = drawn_layer(draw)
            payloads = [layer_payload(one.text(), layer.points(one), layer.taken(one)) for one in in_order(ALL)
                        if layer.points(one) or layer.taken(one)]
            octets = layer_block(layer)
            self.assertEqual(octets, plain_block([0], payloads))
            for given in (octets, tuple(octets)):
                told = read_block(given)
                self.assertIs(type(told), tuple)
                self.assertEqual((len(told), told[0]), (2, "layer"))
                self.assertTrue(told[1] == layer)
            self.check_directory(octets, payloads)
            for one in ALL:
                self.check_part_of_layer(octets, layer, one)

    def check_directory(self, octets, payloads):
        rows = directory(octets)
        self.assertIs(type(rows), list)
        self.assertEqual([octets[low:high] for _, low, high in rows], payloads)
        texts = [text for text, _, _ in rows]
        self.assertEqual(texts, sorted(texts))
        for (text, low, high), payload in zip(rows, payloads):
            self.assertEqual(payload[:len(text) + 1 + (len(text) > 127)], text_octets(text))
        self.assertEqual(directory(tuple(octets)), rows)

    def check_part_of_layer(self, octets, layer, one):
        if not layer.points(one) and not layer.taken(one):
            check_error(self, NoSeries(one), read_part, octets, one)
            return
        part = read_part(octets, one)
        self.assertEqual([series.text() for series in part.series()], [one.text()])
        self.assertEqual((part.points(one), part.taken(one)), (layer.points(one), layer.taken(one)))

    def test_cells_by_own_octets(self):
        draw = Draw(1020)
        for _ in range(150):
            length = draw.one_of([1, 2, 8, 60, 300])
            cells = drawn_cells(draw, length)
            octets = cells_block(length, cells)
            payloads = [cells_payload(text, cells[text]) for text in sorted(cells)]
            self.assertEqual(octets, plain_block([1] + number_octets(length), payloads))
            backwards = {text: tuple(cells[text]) for text in reversed(list(cells))}
            self.assertEqual(cells_block(length, backwards), octets)
            for given in (octets, tuple(octets)):
                told = read_block(given)
                self.assertEqual(told, ("cells", length, cells))
                self.assertEqual(list(told[2]), sorted(cells))
                self.assertTrue(all(type(row) is list for row in told[2].values()))
            self.check_directory(octets, payloads)
            for one in ALL:
                if one.text() in cells:
                    self.assertEqual(read_part(octets, one), cells[one.text()])
                else:
                    check_error(self, NoSeries(one), read_part, octets, one)

    def test_no_layers(self):
        for value in odd_values() + [[Layer()], Layer, A, {"a{}": [(8, ONE)]}]:
            check_given(self, InvalidLayers, layer_block, value)

    def test_what_is_handed_in_stays_and_what_is_told_is_free(self):
        layer, cells = Layer(), {"b{}": [(8, ONE)], "a{}": ((8, ONE),)}
        layer.put(A, 3, 4)
        octets = layer_block(layer)
        layer_block(layer).clear()
        read_block(octets)[1].take(A, 0, 9)
        read_part(octets, A).put(A, 3, 5)
        directory(octets).clear()
        self.assertEqual((layer.points(A), layer_block(layer)), ([(3, 4)], octets))
        block = cells_block(8, cells)
        self.assertEqual(list(cells.items()), [("b{}", [(8, ONE)]), ("a{}", ((8, ONE),))])
        kept = list(block)
        told = read_block(block)[2]
        told["a{}"].clear()
        told.clear()
        read_part(block, A).clear()
        self.assertEqual(block, kept)
        self.assertEqual(read_block(block), ("cells", 8, {"a{}": [(8, ONE)], "b{}": [(8, ONE)]}))

    def test_sizes(self):
        draw = Draw(103)
        for many in (0, 1, 3, 24):
            layer = Layer()
            series = [Series("n" * 24, {**dict(LONGEST.tags[1:]), "k" * 23 + "a": "w" * 22 + f"{at:02}"})
                      for at in range(many)]
            size = 7
            for one in series:
                points = draw.below(60)
                for at in range(draw.below(60)):
                    low = 10 ** 12 - 1 - 2 * at
                    layer.take(one, low - (at == 59) * 10 ** 6, low + 1)
                for _ in range(points):
                    layer.put(one, 10 ** 12 - draw.within(1, 10 ** draw.within(1, 12)),
                              draw.one_of([-1, 1]) * (10 ** 12 - draw.within(1, 10 ** draw.within(1, 12))))
                if layer.points(one) or layer.taken(one):
                    size += 336 + 12 * (len(layer.points(one)) + len(layer.taken(one)))
            self.assertLessEqual(len(layer_block(layer)), size)
        layer = Layer()
        for at in range(400):
            layer.take(LONGEST, 10 ** 12 - 3 * at - 2, 10 ** 12 - 3 * at - 1)
            layer.put(LONGEST, (at % 7 + 1) * 10 ** 11 + at * at, (-1) ** at * (10 ** 12 - 1))
        octets = layer_block(layer)
        self.assertEqual((len(layer.points(LONGEST)), len(layer.taken(LONGEST))), (400, 400))
        self.assertLessEqual(len(octets), 336 + 12 * 800 + 7)
        self.assertTrue(read_block(octets)[1] == layer)


class NoBlocksTest(unittest.TestCase):
    def check_no_block(self, octets, series=A):
        for given in (octets, tuple(octets)):
            check_given(self, InvalidBlock, read_block, given)
            check_given(self, InvalidBlock, directory, given)
            check_error(self, InvalidBlock(given), read_part, given, series)
            check_error(self, InvalidBlock(given), read_part, given, None)

    def some_blocks(self):
        draw = Draw(104)
        blocks = [layer_block(Layer()), cells_block(8, {})]
        for _ in range(3):
            blocks.append(layer_block(drawn_layer(draw, ALL[:3], 8, 300)))
            blocks.append(cells_block(8, drawn_cells(draw, 8, ALL[:3])))
        return blocks

    def test_each_beginning_and_more_behind(self):
        for octets in self.some_blocks():
            read_block(octets)
            for at in range(len(octets)):
                self.check_no_block(octets[:at])
            for more in ([0], [0, 0, 0], [255], frame([0]), octets):
                self.check_no_block(octets + more)
                self.check_no_block(more + octets)

    def test_one_octet_changed(self):
        draw = Draw(1040)
        for octets in self.some_blocks():
            for at in range(len(octets)):
                for octet in {octets[at] ^ 1, octets[at] ^ 128, draw.below(256), 0, 255}:
                    if octet != octets[at]:
                        self.check_no_block(octets[:at] + [octet] + octets[at + 1:])

    def test_payloads_that_tell_what_is_no_block(self):
        a, b = layer_payload("a{}", [(3, 7)], []), layer_payload("b{}", [], [(2, 5)])
        cell, other = cells_payload("a{}", [(8, ONE)]), cells_payload("b{}", [(8, ONE)])
        self.assertEqual(read_block(plain_block([0], [a, b]))[0], "layer")
        self.assertEqual(read_block(plain_block([1, 8], [cell, other]))[0], "cells")
        for kind in ([], [2], [1], [0, 0], [0, 8], [1, 0], [1, 8, 0], [1, 8, 8], [1, 136, 0], [1, 128], [2, 8], [3], [255],
                     [128, 0], [0, 1, 8]):
            for payloads in ([], [a], [cell], [a, b], [cell, other]):
                self.check_no_block(plain_block(kind, payloads))
        # The series do not ascend, or stand twice, or tell nothing.
        for payloads in ([b, a], [a, a], [a, b, b], [a, layer_payload("a{}", [(4, 7)], [])], [b, a, b],
                         [layer_payload("a{}", [], [])], [a, layer_payload("b{}", [], [])], [a, []], [[], a], [a, [], b]):
            self.check_no_block(plain_block([0], payloads))
        for payloads in ([other, cell], [cell, cell], [cell, cells_payload("a{}", [(16, fold([(17, 1)]))])],
                         [cells_payload("a{}", [])], [cell, cells_payload("b{}", [])], [cell, []], [[], cell]):
            self.check_no_block(plain_block([1, 8], payloads))
        # Of the other kind.
        self.check_no_block(plain_block([1, 8], [a]))
        self.check_no_block(plain_block([0], [cell]))
        self.check_no_block(plain_block([1, 8], [a, cell]))

    def test_the_last_payload(self):
        a = layer_payload("a{}", [(3, 7)], [])
        for octets in ([], [1, 0, 0, 0], frame([0]) + frame(a), frame([0]) + frame(a) + frame([0]),
                       frame([0]) + frame(a) + [0, 0, 0, 0, 0, 0], [0, 0, 0], [0, 0, 0, 0, 0, 0], [1, 8, 8, 8],
                       [0, 0, 0] + frame([0]) + [0, 0, 0], frame([0]) + [0, 0, 0] + frame(a) + [0, 0, 0],
                       frame([1, 8]), frame([1, 8]) + frame([0]), frame([0]) + [128, 0, 0, 0], frame([0]) + [0, 0],
                       frame([0]) + [0, 0, 1], [129, 0] + frame([0])[1:] + [0, 0, 0]):
            self.check_no_block(octets)

    def test_texts_of_series(self):
        for text in ("a{zone=x,host=a}", "a", "", "a{", "a{b=1,b=1}", "a{b=1,b=2}", "A{}", "a{name=b}", "a {}", "a{b=}",
                     "a{b=1,}"):
            self.check_no_block(plain_block([0], [layer_payload(text, [(3, 7)], [])]))
            self.check_no_block(plain_block([1, 8], [cells_payload(text, [(8, ONE)])]))
        codes = [3, 97, 123, 37]
        self.check_no_block(plain_block([0], [codes + pack([(3, 7)]) + [0]]))
        self.check_no_block(plain_block([0], [[131, 0, 97, 123, 125] + pack([(3, 7)]) + [0]]))

    def test_stretches(self):
        for stretches in ([(0, 2), (2, 4)], [(0, 3), (2, 4)], [(0, 9), (2, 4)], [(4, 6), (0, 2)], [(0, 2), (0, 2)],
                          [(0, 2), (0, 3)], [(3, 3)], [(0, 2), (5, 5)], [(0, 0)]):
            self.check_no_block(plain_block([0], [layer_payload("a{}", [], stretches)]))
            self.check_no_block(plain_block([0], [layer_payload("a{}", [(1, 1)], stretches)]))
        head = text_octets("a{}") + pack([])
        for rest in ([], [1], [1, 2], [2, 0, 1], [1, 2, 3, 0], [1, 130, 0, 3], [1, 2, 131, 0], [129, 0, 2, 3], [1, 2, 128],
                     [0], number_octets(10 ** 30) + [0, 1, 3, 1]):
            self.check_no_block(plain_block([0], [head + rest]))
        layer = Layer()
        layer.take(A, 2, 5)
        self.assertTrue(read_block(plain_block([0], [head + [1, 2, 3]]))[1] == layer)

    def test_points_packed_in_another_way(self):
        points = [(1, 7), (2, 7), (3, 7), (4, 9)]
        read = 0
        for way in range(4):
            payload = text_octets("a{}") + pack_times([1, 2, 3, 4]) + [way] + told_in([7, 7, 7, 9], way=way) + [0]
            if payload == layer_payload("a{}", points, []):
                self.assertEqual(read_block(plain_block([0], [payload]))[1].points(A), points)
                read += 1
            else:
                self.check_no_block(plain_block([0], [payload]))
        self.assertEqual(read, 1)
        head = text_octets("a{}")
        for packed in ([2, 5, 128, 0, 0, 2, 2], [130, 0, 5, 0, 0, 2, 2], [3, 0, 0, 1, 0, 2, 2, 2], [1, 5, 0], [1, 5, 0, 128, 0],
                       [1, 5, 4, 2], [0], []):
            self.check_no_block(plain_block([0], [head + packed + [0]]))

    def test_folds(self):
        head = text_octets("a{}") + pack_times([8])
        whole = cells_payload("a{}", [(8, ONE)])
        self.assertEqual(whole, head + [1, 10, 10, 0, 1, 10, 0, 10])
        for rest in ([0, 10, 10, 0, 1, 10, 0, 10], [2, 10, 10, 0, 1, 10, 0, 10], [1, 12, 10, 0, 1, 10, 0, 10],
                     [1, 10, 12, 0, 1, 10, 0, 10], [1, 10, 10, 1, 1, 10, 0, 10], [1, 10, 10, 0, 8, 10, 0, 10],
                     [1, 10, 10, 0, 1, 12, 0, 10], [1, 10, 10, 0, 1, 10, 1, 10], [1, 10, 10, 0, 1, 10, 0, 12],
                     [2, 20, 10, 0, 1, 10, 0, 10], [2, 20, 10, 0, 1, 10, 7, 10], [9, 90, 10, 0, 0, 10, 7, 10],
                     [3, 30, 10, 0, 1, 10, 1, 10], [1, 10, 10, 0, 1, 10, 0], [1, 10, 10, 0, 1, 10, 0, 10, 0],
                     [129, 0, 10, 10, 0, 1, 10, 0, 10], [1, 138, 0, 10, 0, 1, 10, 0, 10], [1, 10, 10, 128, 0, 1, 10, 0, 10],
                     []):
            self.check_no_block(plain_block([1, 8], [head + rest]))
        self.assertEqual(read_block(plain_block([1, 8], [head + [2, 20, 10, 0, 1, 10, 6, 10]]))[2],
                         {"a{}": [(8, (2, 10, 5, 5, (9, 5), (15, 5)))]})
        # Beginnings that are no multiples of the length, or told in no right way.
        for length in (3, 5, 7, 16):
            self.check_no_block(plain_block([1, length], [whole]))
        for times in ([1, 136, 0], [129, 0, 8], [2, 8], [3, 8, 7, 17], [2, 8, 7]):
            self.check_no_block(plain_block([1, 8], [text_octets("a{}") + times + whole[len(head):]]))

    def test_a_block_that_is_spoilt_at_another_series(self):
        a, b = layer_payload("a{}", [(3, 7)], []), layer_payload("b{}", [], [(2, 5), (5, 6)])
        self.check_no_block(plain_block([0], [a, b]), A)
        self.check_no_block(plain_block([1, 8], [cells_payload("a{}", [(8, ONE)]), cells_payload("b{}", [(0, ONE)])]), A)
        good = plain_block([0], [a, layer_payload("b{}", [], [(2, 5)])])
        for at in range(len(good)):
            self.check_no_block(good[:at] + [good[at] ^ 64] + good[at + 1:], A)

    def test_the_order_of_errors(self):
        good = layer_block(Layer())
        for value in odd_values(list, tuple) + [[256], [True], [-1], [1.0], (0, None), [[1, 0, 0, 0]]]:
            for call in (read_block, directory):
                check_given(self, InvalidOctets, call, value)
            for series in (A, None, "a{}"):
                check_error(self, InvalidOctets(value), read_part, value, series)
        for value in odd_values() + ["a{}", "a", [A], Series]:
            check_error(self, InvalidSeries(value), read_part, good, value)
            check_error(self, InvalidBlock(good[1:]), read_part, good[1:], value)
        with self.assertRaises(NoSeries) as caught:
            read_part(series=B, octets=good)
        self.assertIs(caught.exception.series, B)
        self.assertIs(type(caught.exception), NoSeries)

    def test_an_equal_series_is_found(self):
        block = cells_block(8, {LOAD.text(): [(8, ONE)]})
        self.assertEqual(read_part(block, read_series("load{zone=x,host=a}")), [(8, ONE)])
        layer = Layer()
        layer.put(LOAD, 3, 4)
        self.assertEqual(read_part(layer_block(layer), read_series("load{zone=x,host=a}")).points(LOAD), [(3, 4)])


if __name__ == "__main__":
    unittest.main()
