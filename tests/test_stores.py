"""[121] to [124]: what stores do to their disks, step by step."""

import unittest

from everygrain.blocks import cells_block, layer_block
from everygrain.disks import Disk
from everygrain.errors import (
    Broken, ClockBack, Gone, InvalidDeed, InvalidDisk, InvalidRules, InvalidSeries, InvalidWindow, InvalidWindows,
    OtherRules, PowerCut)
from everygrain.grains import Rules
from everygrain.layers import Layer
from everygrain.logs import deed_record
from everygrain.octets import frame
from everygrain.rolls import Roll
from everygrain.series import Series
from everygrain.stores import Store
from tests.stores import FOR_EVER, ONE, ROWS, TWO, Told, clock, put, store_of, take, told_of
from tests.support import check_error, check_examples, check_given, odd_values

RULES = Rules(FOR_EVER)


def roll_octets(done, now, log, layers=(), cells=(None, None), views=(), rules=RULES):
    return frame(Roll(done, now, rules, log, layers, cells, views).record())


def deed_octets(*deeds):
    return [octet for deed in deeds for octet in frame(deed_record(deed))]


def layer_of(*deeds):
    layer = Layer()
    for word, *parts in deeds:
        if word == "put":
            layer.put(*parts)
        elif word == "take":
            layer.take(*parts)
    return layer


def disk_of(files):
    """A disk with files of these octets, all of them synced."""
    disk = Disk()
    for name, octets in files.items():
        disk.append(name, octets)
        disk.sync(name)
    return disk


def files_of(disk):
    return {name: disk.read(name) for name in disk.names()}


def synced_of(disk):
    """Of each file whether all of it is synced."""
    return {name: disk.synced(name) == len(disk.read(name)) for name in disk.names()}


class ExamplesTest(unittest.TestCase):
    def test_examples_of_the_interface(self):
        check_examples(self, r"""
>>> from everygrain.disks import Disk
>>> from everygrain.grains import Rules
>>> from everygrain.series import Series
>>> from everygrain.stores import Store
>>> load, disk = Series("load"), Disk()
>>> store = Store(disk, Rules([(1, 8), (4, 20), (8, None)]))
>>> store.do(("put", load, 3, 5))
>>> store.do(("put", load, 9, -2))
>>> store.sync()
>>> store.do(("take", load, 0, 4))
>>> [store.done(), store.synced(), store.points(load, 0, 12), disk.names()]
[3, 2, [(9, -2)], ['log-1', 'roll-1']]
>>> rest = disk.remains({"log-1": 4})
>>> again = Store(rest)
>>> [again.done(), again.synced(), again.points(load, 0, 12), rest.names()]
[2, 2, [(3, 5), (9, -2)], ['block-1', 'log-2', 'roll-2']]
>>> [store.seal(), store.seal(), store.synced(), disk.names()]
[True, False, 3, ['block-1', 'log-2', 'roll-2']]
>>> store.do(("clock", 14))
>>> [store.folds(load, 4, 12, 4), store.clock(), Store(disk.remains({})).clock()]
[[None, (1, -2, -2, -2, (9, -2), (9, -2))], 14, 0]
>>> store.do(("put", load, 3, 6))
raises Gone(3, 0)
""")


class MakeTest(unittest.TestCase):
    def test_a_new_disk(self):
        disk = Told()
        store = Store(disk, RULES)
        octets = roll_octets(0, 0, 1)
        self.assertEqual(disk.since(), [("append", "log-1", []), ("sync", "log-1"), ("append", "roll-1", octets),
                                        ("sync", "roll-1")])
        self.assertEqual(files_of(disk), {"log-1": [], "roll-1": octets})
        self.assertEqual((store.done(), store.synced(), store.clock(), store.rules(), store.series(), store.blocks()),
                         (0, 0, 0, RULES, [], []))

    def test_just_so_many_steps(self):
        wanted = 3 + len(roll_octets(0, 0, 1))
        for left in (0, 5):
            disk = Disk()
            disk.limit(wanted + left)
            Store(disk, rules=RULES)
            self.assertEqual(disk.left(), left)
        disk = Disk()
        disk.limit(wanted - 1)
        check_error(self, PowerCut(), Store, disk, RULES)

    def test_files_that_were_there_are_dropped_in_order(self):
        for octets in ([], [3, 1, 2], roll_octets(0, 0, 1)[:-1], roll_octets(0, 0, 1) + [0], frame([1, 2, 3])):
            disk = told_of(disk_of({"roll-2": octets, "log-1": [7], "block-3": [1], "x": [2], "roll-10": [], "7": [1]}))
            Store(disk, RULES)
            self.assertEqual(disk.words(), [
                "drop 7", "drop block-3", "drop log-1", "drop roll-10", "drop roll-2", "drop x", "append log-1", "sync log-1",
                "append roll-1", "sync roll-1"])
            self.assertEqual(files_of(disk), {"log-1": [], "roll-1": roll_octets(0, 0, 1)})

    def test_no_rules(self):
        for files in ({}, {"roll-1": [1, 2], "log-1": [3]}):
            for value in odd_values() + [ROWS]:
                disk = disk_of(files)
                check_given(self, InvalidRules, lambda rules: Store(disk, rules), value)
                self.assertEqual(disk, disk_of(files))
            check_error(self, InvalidRules(None), Store, disk_of(files))

    def test_no_disk(self):
        for value in odd_values() + [RULES]:
            check_given(self, InvalidDisk, Store, value)
            check_given(self, InvalidDisk, lambda disk: Store(disk, 7), value)

    def test_a_dead_disk(self):
        disk = Disk()
        disk.limit(0)
        check_error(self, PowerCut(), disk.append, "a", [])
        check_error(self, InvalidRules(7), Store, disk, 7)
        check_error(self, PowerCut(), Store, disk, RULES)
        disk = disk_of({"roll-1": roll_octets(0, 0, 1), "log-1": []})
        disk.limit(0)
        check_error(self, PowerCut(), disk.sync, "log-1")
        check_error(self, OtherRules(Rules(ROWS)), Store, disk, Rules(ROWS))
        check_error(self, PowerCut(), Store, disk)


class OpenTest(unittest.TestCase):
    def test_steps(self):
        files = {"roll-4": roll_octets(7, 3, 5, (6, 2), (None, 9)), "log-5": deed_octets(put(20), clock(9)),
                 "block-6": layer_block(layer_of(put(10, 5), put(11, 6))), "block-2": layer_block(layer_of(take(11, 12))),
                 "block-9": cells_block(8, {})}
        strays = {"roll-3": roll_octets(0, 0, 1), "log-1": [1, 2], "block-7": [], "roll-11": [3], "x": []}
        for rules in (None, RULES, Rules(list(FOR_EVER))):
            disk = told_of(disk_of({**files, **strays}))
            store = Store(disk, rules)
            self.assertEqual(disk.words(), [
                "sync roll-4", "sync log-5", "sync block-6", "sync block-2", "sync block-9", "drop block-7", "drop log-1",
                "drop roll-11", "drop roll-3", "drop x"])
            self.assertEqual(files_of(disk), files)
            self.assertEqual((store.done(), store.synced(), store.clock()), (9, 9, 9))
            self.assertEqual(store.blocks(), ["block-6", "block-2", "block-9"])
            self.assertEqual(store.points(ONE, 0, 99), [(10, 5), (20, 1)])

    def test_octets_that_are_left_in_the_log(self):
        whole = deed_octets(put(20), put(21))
        for left in ([1], deed_octets(put(22))[:-1], [1, 2, 3, 4], frame([9])[:-1] + [0]):
            disk = told_of(disk_of({"roll-1": roll_octets(7, 3, 5, (6,)), "log-5": whole + left,
                                    "block-6": layer_block(layer_of(put(10, 5))), "block-9": [1]}))
            store = Store(disk)
            block = layer_block(layer_of(put(20), put(21)))
            self.assertEqual(disk.since(), [
                ("sync", "roll-1"), ("sync", "log-5"), ("sync", "block-6"), ("drop", "block-9"),
                ("append", "block-7", block), ("sync", "block-7"), ("append", "log-6", []), ("sync", "log-6"),
                ("append", "roll-2", roll_octets(9, 3, 6, (6, 7))), ("sync", "roll-2"), ("drop", "log-5"), ("drop", "roll-1")])
            self.assertEqual((store.done(), store.synced(), store.points(ONE, 0, 99)), (9, 9, [(10, 5), (20, 1), (21, 1)]))
            self.assertEqual(store.blocks(), ["block-6", "block-7"])

    def test_octets_left_behind_deeds_that_change_no_point(self):
        for deeds, now, views in (([], 3, []), ([clock(5), ("view", "v", "sum  of all every 4")], 5, [("v", "sum of all every 4")])):
            disk = told_of(disk_of({"roll-1": roll_octets(7, 3, 5), "log-5": deed_octets(*deeds) + [1]}))
            Store(disk)
            self.assertEqual(disk.since(), [
                ("sync", "roll-1"), ("sync", "log-5"), ("append", "log-6", []), ("sync", "log-6"),
                ("append", "roll-2", roll_octets(7 + len(deeds), now, 6, views=views)), ("sync", "roll-2"),
                ("drop", "log-5"), ("drop", "roll-1")])

    def test_unsynced_files_are_synced(self):
        disk = Disk()
        disk.append("roll-1", roll_octets(0, 0, 1))
        disk.append("log-1", deed_octets(put(1), put(2)))
        store = Store(disk)
        self.assertEqual((store.done(), store.synced()), (2, 2))
        self.assertEqual(synced_of(disk), {"roll-1": True, "log-1": True})

    def test_the_newest_roll_that_counts(self):
        disk = disk_of({"roll-9": roll_octets(1, 0, 3), "roll-10": roll_octets(2, 0, 3), "roll-11": [1, 2], "log-3": [],
                        "roll-12": roll_octets(5, 0, 3) + [0]})
        self.assertEqual(Store(disk).done(), 2)
        self.assertEqual(disk.names(), ["log-3", "roll-10"])

    def test_the_order_of_errors(self):
        other = Rules(ROWS)
        disk = disk_of({"roll-1": roll_octets(0, 0, 1)})
        before = disk.copied()
        for value in odd_values(type(None)) + [FOR_EVER]:
            check_given(self, InvalidRules, lambda rules: Store(disk, rules), value)
        check_given(self, InvalidRules, lambda rules: Store(disk, rules), 7)
        with self.assertRaises(OtherRules) as caught:
            Store(disk, other)
        self.assertIs(caught.exception.rules, other)
        for rules in (None, RULES):
            check_error(self, Broken("log-1"), Store, disk, rules)
        self.assertEqual(disk, before)

    def test_opened_again_and_again(self):
        store, disk = store_of(ROWS, put(1), put(9, 7), ("view", "v", "sum of all every 4"))
        for _ in range(3):
            store = Store(disk, Rules(ROWS))
            self.assertEqual((store.done(), store.points(ONE, 0, 20)), (3, [(1, 1), (9, 7)]))
        store.do(take(1, 2))
        self.assertEqual(Store(disk.copied()).points(ONE, 0, 20), [(9, 7)])


class DoTest(unittest.TestCase):
    def test_each_deed_appends_its_frame(self):
        store, disk = store_of(FOR_EVER)
        disk.since()
        for many, deed in enumerate([put(3, -5), take(0, 2, TWO), clock(4), ("view", "v", "sum of all every 4"),
                                     ("unview", "v"), put(3, 7), put(3, 7), clock(4)], 1):
            self.assertIsNone(store.do(deed))
            self.assertEqual(disk.since(), [("append", "log-1", frame(deed_record(deed)))])
            self.assertEqual((store.done(), store.synced()), (many, 0))
        self.assertEqual(store.clock(), 4)
        self.assertIsNone(store.sync())
        self.assertEqual(disk.since(), [("sync", "log-1")])
        self.assertEqual(store.synced(), 8)
        store.sync()
        self.assertEqual(disk.since(), [("sync", "log-1")])
        store.do(put(4))
        self.assertEqual((store.done(), store.synced()), (9, 8))

    def test_the_plainest_text_of_a_view(self):
        store, disk = store_of(FOR_EVER)
        disk.since()
        store.do(("view", "v", "sum of ((host=a))every 4" + " " * 420))
        self.assertEqual(disk.since(), [("append", "log-1", frame(deed_record(("view", "v", "sum of host=a every 4"))))])

    def test_refused_deeds_take_no_step(self):
        store, disk = store_of(FOR_EVER, clock(14), put(9, 3))
        before, synced = disk.copied(), store.synced()
        disk.limit(0)
        refused = [(put(3), Gone(3, 0)), (take(3, 20), Gone(3, 0)), (clock(13), ClockBack(13))]
        for deed, error in refused:
            check_error(self, error, store.do, deed)
        for deed in odd_values() + [["put", ONE, 9, 1], ("put", "a{}", 9, 1), ("put", ONE, -1, 1), ("put", ONE, 9, 1.0),
                                    ("put", ONE, True, 1), ("put", ONE, 9), ("take", ONE, 9, 9), ("take", ONE, 10, 9),
                                    ("clock",), ("clock", -1), ("clock", 20, 1), ("sync",), ("clock", None), (None,), ("put",),
                                    ("take", ONE, 9), ("clock", True)]:
            check_given(self, InvalidDeed, store.do, deed)
        self.assertEqual((disk == before, disk.left(), store.done(), store.synced()), (True, 0, 2, synced))
        self.assertEqual(store.points(ONE, 4, 20), [(9, 3)])
        check_error(self, PowerCut(), store.do, put(9))

    def test_the_time_of_a_take_is_its_low(self):
        store, _ = store_of(FOR_EVER, clock(14))
        check_error(self, Gone(3, 0), store.do, take(3, 5))
        store.do(take(4, 5))

    def test_a_frame_that_is_cut_is_no_deed(self):
        octets = deed_octets(put(9, 3))
        for left in range(len(octets)):
            store, disk = store_of(FOR_EVER, put(1))
            disk.limit(left)
            check_error(self, PowerCut(), store.do, put(9, 3))
            self.assertEqual(disk.read("log-1"), deed_octets(put(1)) + octets[:left])
            self.assertEqual(Store(disk.remains({"log-1": 99})).points(ONE, 0, 20), [(1, 1)])
        store, disk = store_of(FOR_EVER, put(1))
        disk.limit(len(octets))
        store.do(put(9, 3))
        self.assertEqual((disk.left(), store.done()), (0, 2))

    def test_a_frame_of_a_put_has_at_most_344_octets(self):
        tags = {"k" * 23 + str(at): "w" * 24 for at in range(6)}
        longest = Series("n" * 24, tags)
        for deed in (("put", longest, 999999999999, -999999999999), ("take", longest, 999999999998, 999999999999),
                     ("take", longest, 0, 999999999999)):
            store, disk = store_of(FOR_EVER)
            store.do(deed)
            self.assertEqual(len(disk.read("log-1")), len(deed_octets(deed)))
            self.assertLessEqual(len(disk.read("log-1")), 344)

    def test_what_is_handed_in_stays(self):
        rules, deed = Rules(FOR_EVER), put(9)
        store, _ = store_of(FOR_EVER)
        store.do(deed)
        self.assertEqual((deed, rules.rows), (put(9), tuple(FOR_EVER)))


class AnswersTest(unittest.TestCase):
    def test_points_folds_and_series(self):
        store, _ = store_of(FOR_EVER, put(3, 5), put(9, -2), put(9, 4, TWO), clock(14))
        self.assertEqual(store.points(ONE, 4, 12), [(9, -2)])
        self.assertEqual(store.points(ONE, 0, 0), [])
        self.assertEqual(store.folds(ONE, 0, 12, 4), [(1, 5, 5, 5, (3, 5), (3, 5)), None, (1, -2, -2, -2, (9, -2), (9, -2))])
        self.assertEqual(store.folds(series=TWO, low=8, high=12, step=4), [(1, 4, 4, 4, (9, 4), (9, 4))])
        self.assertEqual(store.points(series=TWO, low=4, high=99), [(9, 4)])
        self.assertEqual(store.series(), [ONE, TWO])

    def test_errors_in_their_order(self):
        store, _ = store_of(FOR_EVER, clock(14))
        for value in odd_values() + ["a{}"]:
            check_given(self, InvalidSeries, lambda series: store.points(series, -1, 0), value)
            check_given(self, InvalidSeries, lambda series: store.folds(series, -1, 0, 0), value)
        for low, high in ((3, 2), (-1, 2), (0, -1), (None, 2), (0, True), (0, 1.0)):
            check_error(self, InvalidWindow((low, high)), store.points, ONE, low, high)
            check_error(self, InvalidWindows((low, high, 1)), store.folds, ONE, low, high, 1)
        for low, high, step in ((0, 8, 0), (0, 8, 3), (0, 401, 1), (0, 8, True), (0, 8, None), (0, 8, -4)):
            check_error(self, InvalidWindows((low, high, step)), store.folds, ONE, low, high, step)
        check_error(self, Gone(3, 0), store.points, ONE, 3, 4)
        check_error(self, Gone(2, 0), store.folds, ONE, 2, 6, 2)
        self.assertEqual((store.points(ONE, 3, 3), store.folds(ONE, 2, 2, 2)), ([], []))

    def test_what_is_told_is_free(self):
        store, _ = store_of(FOR_EVER, put(3, 5), put(9, -2), ("view", "v", "sum of all every 4"))
        store.seal()
        store.do(put(10))
        for _ in range(2):
            for told in (store.points(ONE, 0, 20), store.folds(ONE, 0, 20, 4), store.series(), store.blocks(), store.views(),
                         store.fresh("v"), store.read_view("v", 0, 8), store.ask("sum of all from 0 to 8 every 4")):
                self.assertIs(type(told), list)
                told.reverse()
                told.clear()
            self.assertEqual(store.points(ONE, 0, 20), [(3, 5), (9, -2), (10, 1)])
            self.assertEqual((len(store.folds(ONE, 0, 20, 4)), store.series(), store.blocks()), (5, [ONE], ["block-1"]))

    def test_asking_takes_no_step(self):
        store, disk = store_of(FOR_EVER, put(3, 5), ("view", "v", "sum of all every 4"))
        before = disk.copied()
        disk.limit(0)
        for call in (lambda: store.points(ONE, 0, 9), lambda: store.folds(ONE, 0, 8, 4), store.series, store.done, store.synced,
                     store.clock, store.rules, store.blocks, store.weight, store.views, lambda: store.read_view("v", 0, 8),
                     lambda: store.fresh("v"), lambda: store.ask("sum of all from 0 to 8 every 4"), store.snapshot):
            call()
        self.assertEqual((disk == before, disk.left()), (True, 0))


class SealTest(unittest.TestCase):
    def test_steps(self):
        store, disk = store_of(FOR_EVER, put(3, 5), clock(2), put(4), take(4, 9), ("view", "v", "sum of all every 4"))
        disk.since()
        self.assertIs(store.seal(), True)
        block = layer_block(layer_of(put(3, 5), put(4), take(4, 9)))
        views = [("v", "sum of all every 4")]
        self.assertEqual(disk.since(), [
            ("append", "block-1", block), ("sync", "block-1"), ("append", "log-2", []), ("sync", "log-2"),
            ("append", "roll-2", roll_octets(5, 2, 2, (1,), views=views)), ("sync", "roll-2"), ("drop", "log-1"),
            ("drop", "roll-1")])
        self.assertEqual((store.done(), store.synced(), store.blocks()), (5, 5, ["block-1"]))
        self.assertIs(store.seal(), False)
        self.assertEqual(disk.since(), [])
        store.do(put(7))
        store.seal()
        self.assertEqual(disk.since(), [
            ("append", "log-2", deed_octets(put(7))), ("append", "block-2", layer_block(layer_of(put(7)))),
            ("sync", "block-2"), ("append", "log-3", []), ("sync", "log-3"),
            ("append", "roll-3", roll_octets(6, 2, 3, (1, 2), views=views)), ("sync", "roll-3"), ("drop", "log-2"),
            ("drop", "roll-2")])
        self.assertEqual(store.points(ONE, 0, 20), [(3, 5), (7, 1)])

    def test_a_log_that_changes_no_point_makes_no_block(self):
        for deed, now, views in ((clock(5), 5, ()), (("view", "v", "sum of all every 4"), 0, [("v", "sum of all every 4")])):
            store, disk = store_of(FOR_EVER, deed)
            disk.since()
            self.assertIs(store.seal(), True)
            self.assertEqual(disk.since(), [
                ("append", "log-2", []), ("sync", "log-2"), ("append", "roll-2", roll_octets(1, now, 2, views=views)),
                ("sync", "roll-2"), ("drop", "log-1"), ("drop", "roll-1")])

    def test_a_take_that_hits_nothing_is_a_layer(self):
        store, disk = store_of(FOR_EVER, take(3, 5))
        store.seal()
        self.assertEqual((store.blocks(), disk.read("block-1")), (["block-1"], layer_block(layer_of(take(3, 5)))))
        self.assertEqual(store.series(), [])

    def test_nothing_to_seal(self):
        store, disk = store_of(FOR_EVER)
        disk.limit(0)
        self.assertIs(store.seal(), False)
        check_error(self, Gone(0, 0), Store(disk_of({"roll-1": roll_octets(0, 99, 1), "log-1": []})).do, put(0))
        self.assertEqual(disk.left(), 0)

    def test_deeds_that_were_synced_are_sealed_too(self):
        store, disk = store_of(FOR_EVER, put(3, 5))
        store.sync()
        self.assertIs(store.seal(), True)
        self.assertEqual(disk.names(), ["block-1", "log-2", "roll-2"])
        again = Store(disk)
        self.assertIs(again.seal(), False)
        self.assertEqual(disk.names(), ["block-1", "log-2", "roll-2"])

    def test_a_log_with_deeds_is_sealed_behind_an_opening(self):
        _, disk = store_of(FOR_EVER, put(3, 5))
        again = Store(disk)
        self.assertEqual((again.synced(), again.seal(), again.done()), (1, True, 1))

    def test_numbers_that_are_on_the_disk(self):
        # A number is one more than the greatest one that is there now; those that were dropped come again.
        store, disk = store_of(FOR_EVER, put(1))
        store.seal()
        store.do(put(2))
        store.merge()
        self.assertEqual(disk.names(), ["block-3", "log-3", "roll-4"])
        store.do(take(0, 9))
        store.merge()
        self.assertEqual(disk.names(), ["log-4", "roll-6"])
        store.do(put(2))
        store.seal()
        self.assertEqual(disk.names(), ["block-1", "log-5", "roll-7"])

    def test_strays_go_with_the_next_roll(self):
        store, disk = store_of(FOR_EVER, put(1))
        disk.append("x", [1])
        disk.append("block-7", [1])
        disk.append("roll-5", [1])
        disk.since()
        store.seal()
        self.assertEqual(disk.words(), [
            "append block-8", "sync block-8", "append log-2", "sync log-2", "append roll-6", "sync roll-6", "drop block-7",
            "drop log-1", "drop roll-1", "drop roll-5", "drop x"])


class WeightTest(unittest.TestCase):
    def test_all_octets_count(self):
        store, disk = store_of(FOR_EVER, put(3, 5))
        self.assertEqual(store.weight(), len(disk.read("log-1")) + len(disk.read("roll-1")))
        store.seal()
        store.do(put(4))
        self.assertEqual(store.weight(), sum(len(octets) for octets in files_of(disk).values()))
        disk.append("x", [1, 2, 3])
        self.assertEqual(store.weight(), sum(len(octets) for octets in files_of(disk).values()))


class BrokenTest(unittest.TestCase):
    """[126]: each way in which a disk is broken, and what is judged no further."""

    FILES = {"roll-4": roll_octets(7, 14, 5, (6, 2), (3, 9), [("v", "sum of all every 4")]),
             "log-5": deed_octets(put(20), clock(15)), "block-6": layer_block(layer_of(put(10, 5))),
             "block-2": layer_block(layer_of(take(11, 12))), "block-3": cells_block(4, {}), "block-9": cells_block(8, {})}

    def check_broken(self, name, **changed):
        files = {key: octets for key, octets in {**self.FILES, **changed}.items() if octets is not None}
        disk = disk_of(files)
        before = disk.copied()
        check_error(self, Broken(name), Store, disk)
        self.assertEqual(disk, before)

    def test_not_broken(self):
        self.assertEqual(Store(disk_of(self.FILES)).done(), 9)

    def test_each_file_that_is_not_there(self):
        names = ["log-5", "block-6", "block-2", "block-3", "block-9"]
        for at, name in enumerate(names):
            self.check_broken(name, **{name: None})
            for later in names[at + 1:]:
                self.check_broken(name, **{name: None, later: None})

    def test_blocks_that_are_none_or_of_another_kind(self):
        layer, cells = self.FILES["block-6"], self.FILES["block-9"]
        for octets in ([], [1, 2], layer[:-1], layer + [0], cells, cells_block(1, {})):
            self.check_broken("block-6", **{"block-6": octets})
            self.check_broken("block-2", **{"block-2": octets, "block-9": []})
        for octets in ([], cells[:-1], layer, cells_block(4, {}), cells_block(16, {})):
            self.check_broken("block-9", **{"block-9": octets})
        self.check_broken("block-3", **{"block-3": cells_block(8, {}), "block-9": None})

    def test_logs(self):
        for deeds in ([frame([9])], [frame([])], [deed_octets(put(20)), frame([0, 1])], [deed_octets(put(3))],
                      [deed_octets(clock(13))], [deed_octets(clock(40), put(20))], [deed_octets(("unview", "w"))],
                      [deed_octets(("view", "w", "sum of all"))], [deed_octets(("unview", "v"), ("unview", "v"))],
                      [deed_octets(*[("view", f"v{at}", "sum of all every 4") for at in range(8)])]):
            octets = [octet for one in deeds for octet in one]
            self.check_broken("log-5", **{"log-5": octets})
            self.check_broken("log-5", **{"log-5": octets + [1], "block-6": None})

    def test_the_views_of_the_roll_come_first(self):
        for text in ("sum of  all every 4", "sum of (all) every 4", "x", "sum of all from 0 to 8 every 4"):
            roll = roll_octets(7, 14, 5, (6, 2), (3, 9), [("v", text)])
            self.check_broken("roll-4", **{"roll-4": roll, "log-5": None})
            self.check_broken("roll-4", **{"roll-4": roll})

    def test_what_is_not_judged(self):
        texts = ["sum  of all every 4", "sum of ((all)) every 4"]
        files = {**self.FILES, "log-5": deed_octets(("view", "w", texts[0]), ("view", "v", texts[1])) + [7, 7],
                 "block-1": [1], "log-9": frame([9]), "roll-3": [3], "x": [1]}
        self.assertEqual(Store(disk_of(files)).views(), [("v", "sum of all every 4"), ("w", "sum of all every 4")])
        # Whether a layer reaches below an edge, and where cells lie, is not asked.
        files = {**self.FILES, "block-6": layer_block(layer_of(put(0), take(0, 3))),
                 "block-9": cells_block(8, {"a{}": [(800, (1, 5, 5, 5, (801, 5), (801, 5)))]})}
        self.assertEqual(Store(disk_of(files)).done(), 9)

    def test_wrong_octets_behind_a_frame_that_is_not_whole(self):
        files = {**self.FILES, "log-5": deed_octets(put(20)) + [4, 1] + frame([9])}
        self.assertEqual(Store(disk_of(files)).done(), 8)


if __name__ == "__main__":
    unittest.main()
