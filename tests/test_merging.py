"""[131] to [136]: merges and expiries, and that no answer changes by them."""

import unittest

from everygrain.blocks import cells_block, layer_block, read_block
from everygrain.errors import InvalidTruth, PowerCut
from everygrain.examiner import examine, meaning
from everygrain.folds import fold
from everygrain.grains import Rules
from everygrain.layers import Layer
from everygrain.octets import frame
from everygrain.rolls import Roll, newest_roll
from everygrain.series import read_series
from everygrain.stores import Store
from tests.stores import (
    ALL, FOR_EVER, ONE, ROWS, THREE, TWO, check_like_plain, clock, drawn_deed, outcome, plain_behind, put, store_of, take,
    told_of)
from tests.support import Draw, check_error, check_examples, check_given, odd_values
from tests.test_stores import disk_of, layer_of


class ExamplesTest(unittest.TestCase):
    def test_examples_of_the_interface(self):
        check_examples(self, r"""
>>> from everygrain.blocks import read_block
>>> from everygrain.disks import Disk
>>> from everygrain.grains import Rules
>>> from everygrain.series import Series
>>> from everygrain.stores import Store
>>> load, disk = Series("load"), Disk()
>>> store = Store(disk, Rules([(1, 8), (4, 20), (8, None)]))
>>> store.do(("put", load, 1, 5))
>>> store.do(("put", load, 2, 7))
>>> [store.seal(), store.blocks()]
[True, ['block-1']]
>>> store.do(("take", load, 2, 4))
>>> [store.merge(), store.merge(), store.blocks(), store.points(load, 0, 9)]
[True, False, ['block-3'], [(1, 5)]]
>>> store.do(("put", load, 22, 1))
>>> store.do(("clock", 30))
>>> [store.expire(), store.expire(), store.blocks(), store.weight()]
[True, False, ['block-4', 'block-5'], 68]
>>> read_block(disk.read("block-5"))
('cells', 8, {'load{}': [(0, (1, 5, 5, 5, (1, 5), (1, 5)))]})
>>> [store.folds(load, 0, 16, 8), store.done()]
[[(1, 5, 5, 5, (1, 5), (1, 5)), None], 5]
>>> store.merge(1)
raises InvalidTruth(1)
""")


def layers_on(disk):
    """The layers of the newest roll, the eldest first."""
    return [read_block(disk.read(f"block-{number}"))[1] for number in newest_roll(disk)[1].layers]


def cells_on(disk):
    """The cells of each grain from 1 on of the newest roll."""
    return [{} if number is None else read_block(disk.read(f"block-{number}"))[2] for number in newest_roll(disk)[1].cells]


def sealed(*groups):
    """A store with one layer for each group of deeds."""
    store, disk = store_of(FOR_EVER)
    for deeds in groups:
        for deed in deeds:
            store.do(deed)
        store.seal()
    disk.since()
    return store, disk


class MergeTest(unittest.TestCase):
    def test_none_and_one(self):
        for last in (False, True):
            store, disk = sealed()
            self.assertIs(store.merge(last), False)
            self.assertEqual(disk.since(), [])
            store.do(put(1))
            self.assertIs(store.merge(last=last), False)
            self.assertEqual(store.blocks(), ["block-1"])
            disk.since()
            self.assertIs(store.merge(last), False)
            self.assertEqual(disk.since(), [])

    def test_one_layer_keeps_its_stretches(self):
        store, disk = sealed([take(1, 5), put(2)])
        self.assertIs(store.merge(), False)
        self.assertEqual(layers_on(disk), [layer_of(take(1, 5), put(2))])

    def test_two(self):
        for last in (False, True):
            store, disk = sealed([put(1), put(2), take(9, 12)], [take(2, 4), put(3)])
            self.assertIs(store.merge(last), True)
            block = layer_block(layer_of(put(1), put(3)))
            roll = Roll(5, 0, Rules(FOR_EVER), 3, (3,), (None, None), ())
            self.assertEqual(disk.since(), [
                ("append", "block-3", block), ("sync", "block-3"), ("append", "roll-4", frame(roll.record())),
                ("sync", "roll-4"), ("drop", "block-1"), ("drop", "block-2"), ("drop", "roll-3")])
            self.assertIs(store.merge(last), False)

    def test_several(self):
        groups = [[put(1), put(2), take(9, 12)], [take(2, 4), put(3)], [put(5), take(20, 30)], [take(5, 6), put(9, 7, TWO)]]
        store, disk = sealed(*groups)
        self.assertIs(store.merge(), True)
        self.assertEqual(layers_on(disk), [layer_of(put(1), put(3), put(9, 7, TWO))])
        store, disk = sealed(*groups)
        self.assertIs(store.merge(True), True)
        self.assertEqual(store.blocks(), ["block-1", "block-2", "block-5"])
        self.assertEqual(layers_on(disk)[2], layer_of(take(20, 30), take(5, 6), put(9, 7, TWO)))
        self.assertEqual(disk.words(), ["append block-5", "sync block-5", "append roll-6", "sync roll-6", "drop block-3",
                                        "drop block-4", "drop roll-5"])
        self.assertIs(store.merge(True), True)
        self.assertEqual(layers_on(disk), [layer_of(*groups[0]), layer_of(*groups[1], *groups[2], *groups[3])])
        self.assertIs(store.merge(True), True)
        self.assertEqual(layers_on(disk), [layer_of(put(1), put(3), put(9, 7, TWO))])
        self.assertIs(store.merge(True), False)

    def test_the_memory_layer_is_sealed_first(self):
        store, disk = sealed([put(1)])
        store.do(put(2))
        disk.since()
        self.assertIs(store.merge(), True)
        self.assertEqual(disk.words(), [
            "append block-2", "sync block-2", "append log-3", "sync log-3", "append roll-3", "sync roll-3", "drop log-2",
            "drop roll-2", "append block-3", "sync block-3", "append roll-4", "sync roll-4", "drop block-1", "drop block-2",
            "drop roll-3"])
        self.assertEqual((store.synced(), store.done()), (2, 2))

    def test_an_empty_layer_has_no_block(self):
        for last in (False, True):
            store, disk = sealed([put(1)], [take(0, 5)])
            self.assertIs(store.merge(last), True)
            self.assertEqual(disk.words(), ["append roll-4", "sync roll-4", "drop block-1", "drop block-2", "drop roll-3"])
            self.assertEqual((store.blocks(), store.points(ONE, 0, 9), disk.names()), ([], [], ["log-3", "roll-4"]))
            self.assertIs(store.merge(last), False)
            store.do(put(4))
            self.assertEqual(Store(disk).points(ONE, 0, 9), [(4, 1)])

    def test_cells_stay(self):
        store, disk = sealed([put(1), put(20), clock(30)])
        store.expire()
        blocks = store.blocks()
        store.do(put(24))
        self.assertIs(store.merge(), True)
        self.assertEqual((len(store.blocks()), store.blocks()[1:]), (2, blocks[1:]))

    def test_no_truth(self):
        for value in odd_values(bool) + [0, 1, "last"]:
            store, disk = sealed([put(1)], [put(2)])
            store.do(put(3))
            disk.limit(0)
            check_given(self, InvalidTruth, store.merge, value)
            self.assertEqual((store.blocks(), store.done(), store.synced()), (["block-1", "block-2"], 3, 2))
            check_error(self, PowerCut(), store.merge, True)


class ExpireTest(unittest.TestCase):
    def test_nothing_to_do(self):
        store, disk = store_of(ROWS)
        disk.since()
        self.assertIs(store.expire(), False)
        self.assertEqual(disk.since(), [])
        store.do(put(20))
        store.do(clock(27))
        disk.since()
        # The edge of grain 0 is 16.
        self.assertIs(store.expire(), False)
        self.assertEqual(disk.words(), ["append block-1", "sync block-1", "append log-2", "sync log-2", "append roll-2",
                                        "sync roll-2", "drop log-1", "drop roll-1"])
        self.assertIs(store.expire(), False)
        self.assertEqual(disk.since(), [])
        self.assertEqual(store.synced(), 2)

    def test_points_go_into_the_cells_of_grain_1(self):
        store, disk = store_of(ROWS, put(1, 5), put(2, 6), put(5, 7, TWO), put(8, 1), put(9, 2), take(3, 20, TWO), clock(16))
        store.seal()
        disk.since()
        self.assertIs(store.expire(), True)
        cells = {"a{}": [(0, fold([(1, 5), (2, 6)]))]}
        roll = Roll(7, 16, Rules(ROWS), 2, (2,), (3, None), ())
        self.assertEqual(disk.since(), [
            ("append", "block-2", layer_block(layer_of(put(8, 1), put(9, 2), take(8, 20, TWO)))), ("sync", "block-2"),
            ("append", "block-3", cells_block(4, cells)), ("sync", "block-3"),
            ("append", "roll-3", frame(roll.record())), ("sync", "roll-3"), ("drop", "block-1"), ("drop", "roll-2")])
        self.assertIs(store.expire(), False)
        self.assertEqual(store.folds(ONE, 0, 16, 4), [fold([(1, 5), (2, 6)]), None, fold([(8, 1), (9, 2)]), None])

    def test_points_go_on_through_several_grains_at_once(self):
        store, disk = store_of(ROWS, put(1, 5), put(9, 6), put(12, 2), put(17, 7), put(21, 8), put(40, 9), clock(42))
        # The edges are 32, 16 and 0.
        self.assertIs(store.expire(), True)
        self.assertEqual(layers_on(disk), [layer_of(put(40, 9))])
        self.assertEqual(cells_on(disk), [{"a{}": [(16, fold([(17, 7)])), (20, fold([(21, 8)]))]},
                                          {"a{}": [(0, fold([(1, 5)])), (8, fold([(9, 6), (12, 2)]))]}])
        self.assertEqual(store.blocks(), ["block-2", "block-3", "block-4"])
        store.do(clock(56))
        # The edges are 48, 32 and 16.
        self.assertIs(store.expire(), True)
        self.assertEqual(layers_on(disk), [])
        self.assertEqual(cells_on(disk), [{"a{}": [(40, fold([(40, 9)]))]},
                                          {"a{}": [(16, fold([(17, 7), (21, 8)]))]}])
        store.do(clock(1000))
        self.assertIs(store.expire(), True)
        self.assertEqual((cells_on(disk), store.blocks(), store.series()), ([{}, {}], [], []))
        self.assertIs(store.expire(), False)

    def test_one_grain(self):
        store, disk = store_of([(1, 5)], put(1), put(4), put(9), take(2, 4), clock(9))
        self.assertIs(store.expire(), True)
        self.assertEqual((layers_on(disk), store.blocks()), ([layer_of(put(4), put(9))], ["block-2"]))
        self.assertIs(store.expire(), False)
        store.do(clock(99))
        self.assertIs(store.expire(), True)
        self.assertEqual(disk.names(), ["log-3", "roll-5"])
        store, disk = store_of([(1, None)], put(1), clock(10 ** 9))
        self.assertIs(store.expire(), False)

    def test_a_part_of_a_stretch_is_something_to_do(self):
        for low, high, wanted in ((0, 3, []), (0, 8, []), (7, 12, [take(8, 12)])):
            store, disk = store_of(ROWS, take(low, high), clock(16))
            self.assertIs(store.expire(), True)
            self.assertEqual(layers_on(disk), [layer_of(*wanted)] if wanted else [])
            self.assertIs(store.expire(), False)
        store, disk = store_of(ROWS, take(8, 12), clock(16))
        self.assertIs(store.expire(), False)

    def test_a_hidden_point_is_something_to_do_but_makes_no_cell(self):
        store, disk = sealed([put(1), put(20)], [take(0, 5), put(21)], [clock(16)])
        self.assertIs(store.expire(), True)
        self.assertEqual((layers_on(disk), cells_on(disk)), ([layer_of(put(20)), layer_of(put(21))], [{}, {}]))

    def test_only_layers_that_change_get_a_new_block(self):
        store, disk = sealed([put(1), put(20)], [put(21)], [put(2)], [put(3), put(22)], [clock(16)])
        self.assertEqual(store.blocks(), ["block-1", "block-2", "block-3", "block-4"])
        disk.since()
        self.assertIs(store.expire(), True)
        self.assertEqual(store.blocks(), ["block-5", "block-2", "block-6", "block-7"])
        self.assertEqual(disk.words(), [
            "append block-5", "sync block-5", "append block-6", "sync block-6", "append block-7", "sync block-7",
            "append roll-7", "sync roll-7", "drop block-1", "drop block-3", "drop block-4", "drop roll-6"])

    def test_only_grains_whose_cells_change_get_a_new_block(self):
        store, disk = store_of(ROWS, put(1), put(17), put(33), clock(41))
        # The edges are 32, 16 and 0.
        store.expire()
        self.assertEqual(store.blocks(), ["block-2", "block-3", "block-4"])
        store.do(put(32, 9))
        store.do(clock(44))
        disk.since()
        # The edges are 36, 24 and 0: what was a cell of 4 at 16 is one of 8 now.
        self.assertIs(store.expire(), True)
        self.assertEqual(cells_on(disk), [{"a{}": [(32, fold([(32, 9), (33, 1)]))]},
                                          {"a{}": [(0, fold([(1, 1)])), (16, fold([(17, 1)]))]}])
        store.do(clock(52))
        # The edges are 44, 32 and 8: only the last grain changes.
        blocks = store.blocks()
        self.assertIs(store.expire(), True)
        self.assertEqual((store.blocks()[0], len(store.blocks())), (blocks[0], 2))
        self.assertEqual(cells_on(disk), [{"a{}": [(32, fold([(32, 9), (33, 1)]))]}, {"a{}": [(16, fold([(17, 1)]))]}])

    def test_cells_that_go_straight_on_leave_their_grain_as_it_is(self):
        store, disk = store_of(ROWS, put(1), put(9), clock(42))
        # The edges are 32, 16 and 0.
        self.assertIs(store.expire(), True)
        self.assertEqual(cells_on(disk), [{}, {"a{}": [(0, fold([(1, 1)])), (8, fold([(9, 1)]))]}])
        self.assertEqual(newest_roll(disk)[1].cells, (None, 2))

    def test_clocks_at_which_one_several_and_all_edges_move(self):
        times = range(0, 60, 3)
        for now in range(0, 110):
            store, disk = store_of(ROWS, *[put(time, time) for time in times])
            # Some are expired in one go, others step by step.
            for earlier in range(0, now, 1 + now // 3):
                store.do(clock(earlier))
                store.expire()
            before = meaning(disk)
            store.do(clock(now))
            self.assertEqual(store.expire(), meaning(disk)[3:] != before[3:])
            self.assertIs(store.expire(), False)
            edges = [Rules(ROWS).edge(grain, now) for grain in range(3)]
            for grain in (1, 2):
                wanted, length = {}, ROWS[grain][0]
                for time in times:
                    if edges[grain] <= time < edges[grain - 1]:
                        wanted.setdefault(time // length * length, []).append((time, time))
                cells = [(low, fold(points)) for low, points in wanted.items()]
                self.assertEqual(cells_on(disk)[grain - 1], {"a{}": cells} if cells else {})
            rest = [put(time, time) for time in times if time >= edges[0]]
            self.assertEqual(layers_on(disk), [layer_of(*rest)] if rest else [])

    def test_a_store_that_is_opened_goes_on(self):
        store, disk = store_of(ROWS, put(1, 5), put(9, 6), clock(16))
        store.expire()
        again = Store(disk.copied())
        again.do(clock(30))
        self.assertIs(again.expire(), True)
        self.assertEqual(again.folds(ONE, 0, 16, 8), [fold([(1, 5)]), fold([(9, 6)])])

    def test_blocks_that_have_nothing_are_left(self):
        # A roll may name blocks without points or cells; they change nothing and stay.
        disk = told_of(disk_of({
            "roll-1": frame(Roll(0, 50, Rules(ROWS), 1, (1,), (2, 3), ()).record()), "log-1": [],
            "block-1": layer_block(Layer()), "block-2": cells_block(4, {}), "block-3": cells_block(8, {})}))
        self.assertIs(Store(disk).expire(), False)


class AnswersTest(unittest.TestCase):
    """[123], [133] to [135]: a store behind any calls against the plain list behind its deeds."""

    def check_cells(self, store, disk, plain):
        """Behind an expiry the cells are the folds of the points of the plain list, and no layer is below the edge."""
        rules, now = plain.rules(), plain.clock()
        edges = [rules.edge(grain, now) for grain in range(len(rules))]
        for grain in range(1, len(rules)):
            length, wanted = rules.length(grain), {}
            for series in ALL:
                cells = []
                for low in range(edges[grain], edges[grain - 1], length):
                    [told] = plain.folds(series, low, low + length, length)
                    if told is not None:
                        cells.append((low, told))
                if cells:
                    wanted[series.text()] = cells
            self.assertEqual(cells_on(disk)[grain - 1], wanted)
        for layer in layers_on(disk):
            for series in layer.series():
                starts = [low for low, _ in layer.points(series) + layer.taken(series)]
                self.assertGreaterEqual(min(starts), edges[0])

    def check_disk(self, store, disk):
        """What lies on the disk between two calls."""
        self.assertEqual(examine(disk), [])
        number, roll = newest_roll(disk)
        self.assertEqual(sorted(disk.names()), sorted([f"roll-{number}"] + roll.files()))
        self.assertEqual(store.blocks(), roll.files()[1:])
        self.assertEqual(store.weight(), sum(len(disk.read(name)) for name in disk.names()))
        self.assertTrue(all(disk.synced(name) == len(disk.read(name)) for name in disk.names() if not name.startswith("log")))

    def drawn_call(self, draw, store, disk):
        """Do a call that is no deed; the store that goes on, and whether it was an expiry."""
        way = draw.below(7)
        before = None if way == 4 else meaning(disk)
        if way == 0:
            store.sync()
        elif way == 1:
            store.seal()
        elif way in (2, 3):
            layers = len(newest_roll(disk)[1].layers) + (not store._state.memory.is_empty())
            self.assertIs(store.merge(way == 2), layers > 1)
            if layers > 1 and way == 3:
                self.assertTrue(all(not layer.taken(series) for layer in layers_on(disk) for series in ALL))
            if way == 3:
                self.assertLessEqual(len(layers_on(disk)), 1)
        elif way == 4:
            store.expire()
            self.assertIs(store.expire(), False)
        elif way == 5:
            store = Store(disk)
        if before is not None:
            self.assertEqual(meaning(disk), before)
        return store, way == 4

    def test_drawn_rows_of_calls(self):
        draw = Draw(135)
        for rows in (ROWS, FOR_EVER, [(1, 5)], [(1, None)], [(1, 3), (2, 5), (6, 12), (12, 30)]):
            for _ in range(6):
                store, disk = store_of(rows)
                plain, many = plain_behind(Rules(rows), []), 0
                for _ in range(60):
                    if draw.below(3):
                        deed = drawn_deed(draw, plain)
                        if deed[0] in ("view", "unview"):
                            told = outcome(store.do, deed)
                        else:
                            told = outcome(store.do, deed)
                            self.assertEqual(told, outcome(plain.do, deed))
                        many += told is None
                    else:
                        store, expired = self.drawn_call(draw, store, disk)
                        if expired:
                            self.check_cells(store, disk, plain)
                    self.check_disk(store, disk)
                    self.assertEqual(store.done(), many)
                    check_like_plain(self, store, plain)

    def test_cells_stay_until_they_go_on(self):
        draw = Draw(134)
        for _ in range(10):
            store, disk = store_of(ROWS)
            plain, seen = plain_behind(Rules(ROWS), []), {}
            for _ in range(80):
                deed = drawn_deed(draw, plain, False)
                if outcome(plain.do, deed) is None:
                    store.do(deed)
                store.expire()
                for grain, cells in enumerate(cells_on(disk), 1):
                    for text, row in cells.items():
                        for low, told in row:
                            self.assertEqual(seen.setdefault((grain, text, low), told), told)
                            points = plain._between(read_series(text), low, low + ROWS[grain][0])
                            self.assertEqual(fold(points), told)

    def test_folds_over_cells_of_several_grains_and_points(self):
        store, disk = store_of(ROWS, *[put(time, 60 - time) for time in range(0, 60, 3)], put(50, 9, THREE), clock(46))
        wanted = store.folds(ONE, 8, 56, 8)
        one = store.folds(ONE, 0, 48, 48)
        self.assertEqual(store.expire(), True)
        self.assertEqual(len(store.blocks()), 3)
        self.assertEqual((store.folds(ONE, 8, 56, 8), store.folds(ONE, 0, 48, 48)), (wanted, one))
        self.assertEqual(one, [fold([(time, 60 - time) for time in range(0, 48, 3)])])
        self.assertEqual(store.folds(TWO, 8, 56, 8), [None] * 6)


if __name__ == "__main__":
    unittest.main()
