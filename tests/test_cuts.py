"""[125], [126], [135] and [172]: whatever is cut, what is opened again has a beginning of the deeds that were done."""

import copy
import unittest

from everygrain.disks import Disk
from everygrain.errors import PowerCut
from everygrain.examiner import examine, meaning
from everygrain.grains import Rules
from everygrain.stores import Store
from tests.stores import (
    ALL, FOR_EVER, ONE, ROWS, THREE, TWO, Told, check_like_plain, clock, drawn_deed, outcome, plain_behind, put, take)
from tests.support import Draw


def views_behind(deeds):
    """The views behind deeds, as the last one of each name tells."""
    views = {}
    for deed in deeds:
        if deed[0] == "view":
            views[deed[1]] = deed[2]
        elif deed[0] == "unview":
            views.pop(deed[1])
    return sorted(views.items())


def unsynced(disk):
    return {name: len(disk.read(name)) - disk.synced(name) for name in disk.names()}


def choices(disk):
    """Choices of none, one, some and all of the unsynced octets, each one once."""
    left = {name: many for name, many in unsynced(disk).items() if many}
    told = []
    for choice in ({}, {name: 1 for name in left}, {name: many - 1 for name, many in left.items()}, left):
        if choice not in told:
            told.append(choice)
    return told


class CutsTest(unittest.TestCase):
    def setUp(self):
        # The disks that were opened already: many cuts leave the same one.
        self.seen = set()

    def check_opened(self, draw, disk, rules, deeds, least):
        """What is opened on a disk has done the deeds up to some number that is not below the least one."""
        place = repr([(name, disk.read(name), disk.synced(name)) for name in disk.names()] + [least, len(deeds)])
        if place in self.seen:
            return
        self.seen.add(place)
        self.assertLessEqual({fault[0] for fault in examine(disk)}, {"roll", "none", "log", "stray"})
        told = meaning(disk)
        if draw.below(3) == 0:
            self.check_cut_openings(draw, disk, rules, told, least)
        store = Store(disk, rules)
        self.assertEqual(examine(disk), [])
        self.assertEqual((meaning(disk), store.done(), store.synced()), (told, told[0], told[0]))
        self.assertTrue(least <= store.done() <= len(deeds), (least, store.done(), len(deeds)))
        behind = deeds[:store.done()]
        self.assertEqual(store.views(), views_behind(behind))
        plain = plain_behind(rules, behind)
        edge = rules.edge(0, plain.clock())
        for series in ALL:
            self.assertEqual(store.points(series, edge, edge + 99), plain.points(series, edge, edge + 99))
        if draw.below(4) == 0:
            check_like_plain(self, store, plain)

    def check_cut_openings(self, draw, disk, rules, told, least):
        """Wherever an opening is cut, again and again, what the files mean stays, but for octets that are not synced."""
        certain = not any(unsynced(disk).values())
        cut, steps = disk.copied(), draw.below(6)
        while cut is not None:
            cut.limit(steps)
            try:
                Store(cut, rules)
                cut = None
            except PowerCut:
                self.assertLessEqual({fault[0] for fault in examine(cut)}, {"log", "stray", "roll"})
                cut = cut.remains(draw.one_of(choices(cut)))
                now = meaning(cut)
                self.assertTrue(now == told if certain else least <= now[0] <= told[0])
                steps += draw.below(30)

    def check_cut_call(self, draw, store, call, deeds, deed, step):
        """Cut a call at one step; whether it was cut at all. The deed is the one that the call does, or None."""
        copied = copy.deepcopy(store)
        disk, rules, least = copied._disk, copied.rules(), copied.synced()
        disk.limit(step)
        try:
            call(copied)
            return False
        except PowerCut:
            # What remains has no fault but those of a cut, and means some of the deeds.
            for choice in choices(disk):
                self.check_opened(draw, disk.remains(choice), rules, deeds, least)
            self.check_opened(draw, disk.copied(), rules, deeds, least)
            return True

    def check_row(self, draw, rows, calls, pick):
        """Do calls in a row, each one cut at its steps first; calls are deeds or words."""
        store, deeds = Store(Told(), Rules(rows)), []
        for item in calls:
            call, deed = self.call_of(item)
            size = self.steps_of(store, call)
            for step in pick(size):
                self.assertTrue(self.check_cut_call(draw, store, call, deeds, deed, step))
            self.assertFalse(self.check_cut_call(draw, store, call, deeds, deed, size))
            if outcome(call, store) is None and deed is not None:
                deeds = deeds + [deed]
            self.assertEqual(examine(store._disk), [])
            for choice in choices(store._disk):
                self.check_opened(draw, store._disk.remains(choice), store.rules(), deeds, store.synced())
            if item == "open":
                store = Store(store._disk)
        return store

    def call_of(self, item):
        if isinstance(item, tuple):
            return (lambda store: store.do(item)), item
        return {"sync": lambda store: store.sync(), "seal": lambda store: store.seal(), "merge": lambda store: store.merge(),
                "merge last": lambda store: store.merge(True), "expire": lambda store: store.expire(),
                "open": lambda store: Store(store._disk)}[item], None

    def steps_of(self, store, call):
        copied = copy.deepcopy(store)
        copied._disk.limit(10 ** 6)
        outcome(call, copied)
        return 10 ** 6 - copied._disk.left()

    def test_each_call_cut_at_each_step(self):
        calls = [put(1, 5), put(9, 6, TWO), "sync", ("view", "v", "sum of all every 4"), "seal", take(0, 2), put(30, 1, THREE),
                 "merge", clock(30), "expire", "open", put(31), "merge last"]
        self.check_row(Draw(125), ROWS, calls, range)

    def test_drawn_rows_cut_at_some_steps(self):
        draw = Draw(126)
        for rows in (ROWS, FOR_EVER, [(1, 5)], [(1, None)]):
            plain, calls, names = plain_behind(Rules(rows), []), [], []
            while len(calls) < 45:
                deed = drawn_deed(draw, plain)
                if draw.below(4) == 0:
                    calls.append(draw.one_of(["sync", "seal", "merge", "merge last", "expire", "expire", "open"]))
                elif deed[0] == "view" or (deed[0] == "unview" and deed[1] in names):
                    names = [name for name in names if name != deed[1]] + [deed[1]] * (deed[0] == "view")
                    calls.append(deed)
                elif deed[0] != "unview" and outcome(plain.do, deed) is None:
                    calls.append(deed)
            self.check_row(draw, rows, calls, lambda size: sorted({draw.below(size) for _ in range(4)} if size else []))

    def test_openings_that_turn_cut_at_each_step(self):
        draw, rules = Draw(127), Rules(ROWS)
        disk = Disk()
        store, deeds = Store(disk, rules), [put(1, 5), put(9, 6, TWO), take(0, 2), clock(3), ("view", "v", "sum of all every 4")]
        for deed in deeds:
            store.do(deed)
        # The log ends within the frame of the last deed, whose octets are not synced.
        rest = disk.remains({"log-1": len(disk.read("log-1")) - 3})
        rest.append("block-9", [1, 2])
        told = meaning(rest)
        self.assertEqual((told[0], examine(rest)[0][0]), (4, "log"))
        step, cut = 0, True
        while cut:
            copied = rest.copied()
            copied.limit(step)
            step += 1
            try:
                Store(copied, rules)
                cut = False
            except PowerCut:
                for choice in choices(copied):
                    again = copied.remains(choice)
                    self.assertEqual(meaning(again), told)
                    self.check_opened(draw, again, rules, deeds, 4)
        self.assertGreater(step, 60)

    def test_making_cut_at_each_step(self):
        rules = Rules(ROWS)
        for files in ((), ("x", "log-7", "roll-2")):
            step, cut = 0, True
            while cut:
                disk = Disk()
                for name in files:
                    disk.append(name, [1, 2])
                disk.limit(step)
                step += 1
                try:
                    Store(disk, rules)
                    cut = False
                except PowerCut:
                    for rest in [disk.remains(choice) for choice in choices(disk)] + [disk.copied()]:
                        told = meaning(rest)
                        self.assertIn(told, [None, (0, 0, [], {}, [{}, {}])])
                        self.assertEqual(("none",) in examine(rest), told is None)
                        store = Store(rest, rules)
                        self.assertEqual((store.done(), store.synced(), rest.names()), (0, 0, ["log-1", "roll-1"]))
                        self.assertEqual(examine(rest), [])
            self.assertGreater(step, 15)

    def test_synced_deeds_and_a_beginning_of_the_others(self):
        store, disk = Store(Told(), Rules(ROWS)), None
        disk = store._disk
        for time in range(3):
            store.do(put(time))
        store.sync()
        for time in range(3, 6):
            store.do(put(time))
        ends = [10, 20, 30]
        self.assertEqual(unsynced(disk), {"log-1": 30, "roll-1": 0})
        for remain in range(32):
            again = Store(disk.remains({"log-1": remain}))
            self.assertEqual(again.done(), 3 + sum(end <= remain for end in ends))
            self.assertEqual(len(again.points(ONE, 0, 9)), again.done())


if __name__ == "__main__":
    unittest.main()
