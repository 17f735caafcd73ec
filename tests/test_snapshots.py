"""[166] to [168]: snapshots, and what is unlike in two of them."""

import unittest

from everygrain.disks import Disk
from everygrain.errors import Gone, InvalidSnapshot, InvalidWindow, PowerCut
from everygrain.grains import Rules
from everygrain.plain import Plain
from everygrain.snapshots import Snapshot, changed, deeds_between
from everygrain.stores import Store
from tests.stores import (
    ALL, FOR_EVER, ONE, ROWS, THREE, TWO, VIEWS, check_like_plain, clock, drawn_deed, outcome, plain_behind, put, store_of,
    take)
from tests.support import Draw, check_error, odd_values


def answers_of(source):
    """What a store or a snapshot answers, errors too."""
    told = [source.rules().rows, source.clock(), source.done(), source.views(), source.series()]
    edge = source.rules().edge(0, source.clock())
    for series in ALL:
        told.append(source.points(series, edge, edge + 90))
        told.append(outcome(source.points, series, 0, 5))
        for step in (1, 4, 8):
            told.append(outcome(source.folds, series, edge, edge + 5 * step, step))
            told.append(outcome(source.folds, series, 0, 5 * step, step))
    for query in ("sum of all from 0 to 80 every 8 by name", "last of host=a from 64 to 80 every 2 fill before"):
        told.append(outcome(source.ask, query))
    for name in ("v", "w", "v-2", "none", None):
        told.append(outcome(source.read_view, name, edge // 8 * 8, edge // 8 * 8 + 16))
    return told


class SnapshotTest(unittest.TestCase):
    def test_as_the_store_was(self):
        draw = Draw(166)
        for rows in (ROWS, FOR_EVER, [(1, None)]):
            for _ in range(6):
                store, disk = store_of(rows)
                plain, kept = plain_behind(Rules(rows), []), []
                for _ in range(40):
                    deed = drawn_deed(draw, plain)
                    if outcome(store.do, deed) is None and deed[0] not in ("view", "unview"):
                        plain.do(deed)
                    if draw.below(5) == 0:
                        draw.one_of([store.seal, store.merge, store.expire, store.sync])()
                    if draw.below(8) == 0:
                        store = Store(disk)
                    if draw.below(5) == 0:
                        before = disk.copied()
                        snapshot = store.snapshot()
                        self.assertIs(type(snapshot), Snapshot)
                        kept.append((snapshot, answers_of(store)))
                        self.assertEqual(disk, before)
                        check_like_plain(self, snapshot, plain)
                    for snapshot, wanted in kept[-3:]:
                        self.assertEqual(answers_of(snapshot), wanted)
                for snapshot, wanted in kept:
                    self.assertEqual(answers_of(snapshot), wanted)

    def test_behind_a_cut(self):
        store, disk = store_of(ROWS, put(9), ("view", "v", VIEWS[0]))
        snapshot = store.snapshot()
        wanted = answers_of(store)
        disk.limit(3)
        check_error(self, PowerCut(), store.do, put(10))
        self.assertEqual(answers_of(snapshot), wanted)
        check_error(self, PowerCut(), store.expire)
        self.assertEqual(answers_of(snapshot), wanted)

    def test_taking_and_asking_change_nothing(self):
        store, disk = store_of(ROWS, put(9), ("view", "v", VIEWS[0]))
        store.read_view("v", 8, 16)
        before = disk.copied()
        disk.limit(0)
        snapshot = store.snapshot()
        answers_of(snapshot)
        for told in (snapshot.points(ONE, 0, 20), snapshot.folds(ONE, 0, 8, 4), snapshot.series(), snapshot.views(),
                     snapshot.ask("sum of all from 0 to 8 every 4"), snapshot.read_view("v", 0, 8)):
            self.assertIs(type(told), list)
            told.clear()
        self.assertEqual((store.fresh("v"), disk == before, disk.left(), store.done()), ([8, 12], True, 0, 2))
        self.assertEqual(answers_of(snapshot), answers_of(store))
        self.assertFalse(hasattr(snapshot, "do"))

    def test_arguments_by_name(self):
        store, _ = store_of(ROWS, put(9), ("view", "v", VIEWS[0]))
        snapshot = store.snapshot()
        self.assertEqual(snapshot.points(series=ONE, low=8, high=10), [(9, 1)])
        self.assertEqual(snapshot.folds(series=ONE, low=8, high=12, step=4), store.folds(ONE, 8, 12, 4))
        self.assertEqual(snapshot.ask(query="sum of all from 8 to 12 every 4"), [("", [(1, 1)])])
        self.assertEqual(snapshot.read_view(name="v", low=8, high=12), [("", [(1, 1)])])


class ChangedTest(unittest.TestCase):
    def test_each_kind_of_change(self):
        store, _ = store_of(ROWS, put(9, 5, TWO), put(10, 6, TWO), put(11, 7), put(12, 8), put(30, 1, THREE))
        one = store.snapshot()
        for deed in (put(10, 7, TWO), take(11, 12), put(12, 8), put(14, 0, THREE), take(30, 31, THREE)):
            store.do(deed)
        other = store.snapshot()
        rows = [(ONE, 11, 7, None), (TWO, 10, 6, 7), (THREE, 14, None, 0), (THREE, 30, 1, None)]
        self.assertEqual(changed(one, other, 0, 99), rows)
        self.assertEqual(changed(one=one, other=other, low=0, high=30), rows[:3])
        self.assertEqual(changed(one, other, 11, 31), [rows[0], rows[2], rows[3]])
        self.assertEqual(changed(other, one, 10, 11), [(TWO, 10, 7, 6)])
        self.assertEqual((changed(one, one, 0, 99), changed(one, other, 12, 14), changed(one, other, 10, 10)), ([], [], []))
        for told in (changed(one, other, 0, 99), deeds_between(one, other, 0, 99)):
            self.assertEqual((type(told), {type(row) for row in told}), (list, {tuple}))
        self.assertEqual(deeds_between(one, other, 0, 99),
                         [take(11, 12), put(10, 7, TWO), put(14, 0, THREE), take(30, 31, THREE)])
        self.assertEqual(deeds_between(one=other, other=one, low=10, high=12), [put(11, 7), put(10, 6, TWO)])

    def test_two_stores(self):
        one, _ = store_of(ROWS, put(9, 5), put(10, 6))
        other, _ = store_of(ROWS, clock(17), put(10, 7), put(12, 8, TWO))
        other.seal()
        rows = [(ONE, 9, 5, None), (ONE, 10, 6, 7), (TWO, 12, None, 8)]
        self.assertEqual(changed(one.snapshot(), other.snapshot(), 8, 20), rows)
        # Behind a clock a series without points that stand at the last grain has no points here, either.
        other.do(clock(100))
        self.assertEqual(changed(one.snapshot(), other.snapshot(), 92, 200), [])

    def test_the_order_of_errors(self):
        rules = Rules([(1, 8), (4, 20), (8, 41)])
        store, _ = store_of(ROWS, clock(16))
        later, _ = store_of(ROWS, clock(40))
        strange = Store(Disk(), rules).snapshot()
        one, other = store.snapshot(), later.snapshot()
        for call in (changed, deeds_between):
            for value in odd_values() + [store, Plain(rules)]:
                for places in ((value, value, 3, 2), (value, 7, 0, 1), (value, one, 0, 1), (one, value, 3, 2)):
                    with self.assertRaises(InvalidSnapshot) as caught:
                        call(*places)
                    self.assertIs(caught.exception.given, value)
            with self.assertRaises(InvalidSnapshot) as caught:
                call(one, strange, 3, 2)
            self.assertIs(caught.exception.given, strange)
            with self.assertRaises(InvalidSnapshot) as caught:
                call(strange, one, 3, 2)
            self.assertIs(caught.exception.given, one)
            for low, high in ((3, 2), (-1, 2), (0, -1), (None, 2), (0, True), (0, 1.0), (0, "1")):
                check_error(self, InvalidWindow((low, high)), call, one, other, low, high)
            # The edges of grain 0 are 8 and 32.
            for places in ((one, other), (other, one), (other, other)):
                check_error(self, Gone(31, 0), call, *places, 31, 40)
                self.assertEqual((call(*places, 31, 31), call(*places, 32, 40)), ([], []))
            check_error(self, Gone(7, 0), call, one, one, 7, 8)
            self.assertEqual(call(one, one, 8, 9), [])

    def test_drawn_snapshots(self):
        draw = Draw(168)
        for _ in range(20):
            stores = [store_of(ROWS)[0] for _ in range(2)]
            plains = [plain_behind(Rules(ROWS), []) for _ in range(2)]
            kept = []
            for _ in range(50):
                at = draw.below(2)
                deed = drawn_deed(draw, plains[at], False)
                if outcome(plains[at].do, deed) is None:
                    stores[at].do(deed)
                if draw.below(7) == 0:
                    draw.one_of([stores[at].seal, stores[at].merge, stores[at].expire])()
                if draw.below(8) == 0:
                    kept.append((stores[at].snapshot(), plain_behind(Rules(ROWS), [])))
                    self.copy_points(plains[at], kept[-1][1])
            for one, plain in kept:
                for other, _ in kept:
                    self.check_changed(draw, one, other, plain)

    def copy_points(self, plain, other):
        """Put the points of a plain list into another one, and its clock."""
        edge = plain.rules().edge(0, plain.clock())
        for series in ALL:
            for time, value in plain.points(series, edge, 500):
                other.do(put(time, value, series))
        other.do(clock(plain.clock()))

    def check_changed(self, draw, one, other, plain):
        edge = max(one.rules().edge(0, one.clock()), other.rules().edge(0, other.clock()))
        low = edge + draw.below(4)
        high = low + draw.below(40)
        rows = changed(one, other, low, high)
        wanted = []
        for series in ALL:
            values, others = dict(one.points(series, low, high)), dict(other.points(series, low, high))
            wanted += [(series, time, values.get(time), others.get(time)) for time in range(low, high)
                       if values.get(time) != others.get(time)]
        self.assertEqual(rows, wanted)
        self.assertEqual(changed(other, one, low, high), [(series, time, value, before) for series, time, before, value in rows])
        # The deeds lead from the points of the one to those of the other.
        copy = plain_behind(plain.rules(), [])
        self.copy_points(plain, copy)
        for deed in deeds_between(one, other, low, high):
            copy.do(deed)
        for series in ALL:
            self.assertEqual(copy.points(series, low, high), other.points(series, low, high))


if __name__ == "__main__":
    unittest.main()
