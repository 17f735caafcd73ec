"""[171] to [173]: the faults of a disk, and what its files mean."""

import unittest

from everygrain.blocks import cells_block, layer_block
from everygrain.disks import Disk
from everygrain.errors import Broken, InvalidDisk, PowerCut
from everygrain.examiner import examine, meaning
from everygrain.folds import fold
from everygrain.octets import frame
from everygrain.stores import Store
from tests.stores import FOR_EVER, ONE, ROWS, TWO, clock, drawn_deed, outcome, plain_behind, put, store_of, take
from tests.support import Draw, check_error, check_given, odd_values
from tests.test_stores import deed_octets, disk_of, layer_of, roll_octets

CELLS = {"a{}": [(0, fold([(1, 5), (2, 6)]))]}
# A store with a file of each kind: its edges are 4 and 0, its deeds done 9.
FILES = {"roll-4": roll_octets(7, 14, 5, (6, 2), (3, 9), [("v", "sum of all every 4")]),
         "log-5": deed_octets(put(20), clock(15)), "block-6": layer_block(layer_of(put(10, 5), put(2, 6))),
         "block-2": layer_block(layer_of(take(11, 12), put(7, 8, TWO))), "block-3": cells_block(4, CELLS),
         "block-9": cells_block(8, {})}
MEANS = (9, 15, [("v", "sum of all every 4")], {"a{}": [(2, 6), (10, 5), (20, 1)], "load{host=a}": [(7, 8)]}, [CELLS, {}])


def changed_disk(changed):
    files = {name: octets for name, octets in {**FILES, **changed}.items() if octets is not None}
    return disk_of(files)


class ExamineTest(unittest.TestCase):
    def check(self, changed, *wanted):
        """The faults of the files with some of them changed; None takes one away. What opening tells goes with them."""
        disk = changed_disk(changed)
        before = disk.copied()
        told = examine(disk)
        self.assertEqual(told, list(wanted))
        self.assertTrue(all(type(fault) is tuple for fault in told))
        self.assertEqual(disk, before)
        self.check_broken(disk, told)

    def check_broken(self, disk, told):
        """Meaning and opening are broken just if a fault of some words is told, and tell the same name."""
        words = {fault[0]: fault[1] for fault in reversed(told) if len(fault) > 1}
        names = [fault[1] for fault in told if fault[0] in ("lacks", "block")]
        names += ["log-5"] * ("record" in words or "refused" in words)
        order = ["log-5", "block-6", "block-2", "block-3", "block-9"]
        broken = "roll-4" if "views" in words else min(names, key=order.index, default=None)
        if broken is None:
            self.assertEqual(meaning(disk), Store(disk) and meaning(disk))
            return
        for call in (meaning, Store):
            check_error(self, Broken(broken), call, disk)

    def test_no_fault(self):
        self.check({})
        self.assertEqual(examine(disk=store_of(ROWS)[1]), [])

    def test_rolls(self):
        self.check({"roll-10": [3, 1], "roll-9": [], "roll-2": FILES["roll-4"] + [0]},
                   ("roll", "roll-2"), ("roll", "roll-9"), ("roll", "roll-10"))

    def test_an_older_roll_is_a_stray(self):
        self.check({"roll-3": FILES["roll-4"], "roll-2": [1]}, ("roll", "roll-2"), ("stray", "roll-3"))

    def test_no_roll_counts(self):
        self.assertEqual(examine(Disk()), [("none",)])
        disk = disk_of({"x": [1], "roll-10": [1], "roll-9": [], "block-1": [], "log-2": deed_octets(put(1)), "roll-x": [1],
                        "roll-01": FILES["roll-4"]})
        self.assertEqual(examine(disk), [
            ("roll", "roll-9"), ("roll", "roll-10"), ("none",), ("stray", "block-1"), ("stray", "log-2"), ("stray", "roll-01"),
            ("stray", "roll-x"), ("stray", "x")])

    def test_views(self):
        for text in ("sum of  all every 4", "sum of all", "x", "sum of (all) every 4"):
            self.check({"roll-4": roll_octets(7, 14, 5, (6, 2), (3, 9), [("v", text)])}, ("views", "roll-4"))
            self.check({"roll-4": roll_octets(7, 14, 5, (6, 2), (3, 9), [("u", "sum of all every 4"), ("v", text)])},
                       ("views", "roll-4"))

    def test_deeds_of_views_behind_a_roll_whose_views_are_at_fault(self):
        views = [("u", "sum of all every 4"), ("v", "x")]
        roll = roll_octets(7, 14, 5, (6, 2), (3, 9), views)
        # Behind it there are none of its views.
        for deeds, fault in (([("unview", "u")], [("refused", 0)]), ([put(20), ("unview", "v")], [("refused", 1)]),
                             ([("view", "u", "sum of all every 4"), ("unview", "u")], []),
                             ([("view", f"w{at}", "sum of all every 4") for at in range(8)], []),
                             ([("view", f"w{at}", "sum of all every 4") for at in range(9)], [("refused", 8)])):
            self.check({"roll-4": roll, "log-5": deed_octets(*deeds)}, ("views", "roll-4"), *fault)

    def test_lacks(self):
        for name in ("log-5", "block-6", "block-2", "block-3", "block-9"):
            self.check({name: None}, ("lacks", name))
        self.check({"block-9": None, "log-5": None, "block-2": None}, ("lacks", "log-5"), ("lacks", "block-2"),
                   ("lacks", "block-9"))

    def test_blocks(self):
        layer, cells = FILES["block-6"], FILES["block-9"]
        for octets in ([], [1], layer[:-1], layer + [0], cells, cells_block(1, {})):
            self.check({"block-6": octets}, ("block", "block-6"))
        for octets in ([], cells[:-1], layer, cells_block(4, {}), cells_block(16, {})):
            self.check({"block-9": octets}, ("block", "block-9"))
        self.check({"block-9": [], "block-3": [], "block-2": [], "block-6": []}, ("block", "block-6"), ("block", "block-2"),
                   ("block", "block-3"), ("block", "block-9"))

    def test_records(self):
        for payload in ([], [9], [0, 1], [2, 136], [5, 1]):
            for ahead in range(3):
                octets = deed_octets(*[put(20 + at) for at in range(ahead)]) + frame(payload)
                self.check({"log-5": octets}, ("record", ahead))
                # Only the first one is told.
                self.check({"log-5": octets + frame([9]) + deed_octets(put(0))}, ("record", ahead))
                self.check({"log-5": octets + [4, 1]}, ("record", ahead), ("log", len(octets)))

    def test_refused(self):
        for deed in (put(3), take(3, 20), clock(13), ("unview", "w"), ("view", "w", "sum of all"), ("view", "w", "x")):
            for ahead in range(3):
                octets = deed_octets(*[put(20 + at) for at in range(ahead)], deed)
                self.check({"log-5": octets}, ("refused", ahead))
                self.check({"log-5": octets + frame([9])}, ("refused", ahead))
                self.check({"log-5": frame([9]) + octets}, ("record", 0))
        self.check({"log-5": deed_octets(clock(32), put(20))}, ("refused", 1))
        self.check({"log-5": deed_octets(("unview", "v"), ("unview", "v"))}, ("refused", 1))
        many = [("view", f"w{at}", "sum of all every 4") for at in range(8)]
        self.check({"log-5": deed_octets(*many)}, ("refused", 7))
        # The text of a view in the log need not be the plainest.
        self.check({"log-5": deed_octets(("view", "w", "sum of (all)  every 4"))})

    def test_octets_behind_the_log(self):
        whole = FILES["log-5"]
        for left in ([1], [0, 0], [7, 7, 7], frame([9])[:-1], [0, 0, 1], [128]):
            self.check({"log-5": whole + left}, ("log", len(whole)))
            self.check({"log-5": left}, ("log", 0))

    def test_strays(self):
        self.check({"x": [], "log-4": deed_octets(put(1)), "block-1": FILES["block-6"], "roll-3": FILES["roll-4"], "0": [1],
                    "log-10": []}, ("stray", "0"), ("stray", "block-1"), ("stray", "log-10"), ("stray", "log-4"),
                   ("stray", "roll-3"), ("stray", "x"))

    def test_several_at_once_in_their_order(self):
        roll = roll_octets(7, 14, 5, (6, 2), (3, 9), [("v", "x")])
        self.check({"roll-4": roll, "roll-12": [1], "roll-3": [], "block-6": None, "block-9": None, "block-2": [1],
                    "block-3": layer_block(layer_of()), "log-5": deed_octets(put(20)) + frame([7]) + [3], "x": [], "a": []},
                   ("roll", "roll-3"), ("roll", "roll-12"), ("views", "roll-4"), ("lacks", "block-6"), ("lacks", "block-9"),
                   ("block", "block-2"), ("block", "block-3"), ("record", 1), ("log", len(deed_octets(put(20))) + 4),
                   ("stray", "a"), ("stray", "x"))
        self.check({"log-5": None, "block-9": [], "b": []}, ("lacks", "log-5"), ("block", "block-9"), ("stray", "b"))

    def test_unsynced_octets_count(self):
        disk = Disk()
        for name, octets in FILES.items():
            disk.append(name, octets)
        self.assertEqual((examine(disk), meaning(disk)), ([], MEANS))

    def test_a_dead_disk_is_examined(self):
        disk = changed_disk({})
        disk.limit(0)
        check_error(self, PowerCut(), disk.append, "a", [])
        self.assertEqual((examine(disk), meaning(disk)), ([], MEANS))

    def test_no_disk(self):
        for value in odd_values():
            check_given(self, InvalidDisk, examine, value)
            check_given(self, InvalidDisk, meaning, value)


class MeaningTest(unittest.TestCase):
    def test_each_part(self):
        disk = changed_disk({})
        told = meaning(disk)
        self.assertEqual(told, MEANS)
        self.assertEqual([type(part) for part in told], [int, int, list, dict, list])
        self.assertEqual(meaning(disk=disk), MEANS)
        for part in told[2:]:
            part.clear()
        self.assertEqual(meaning(disk), MEANS)

    def test_none(self):
        for disk in (Disk(), disk_of({"roll-1": [1], "x": [2]}), disk_of({"log-1": deed_octets(put(1))})):
            self.assertIsNone(meaning(disk))
        self.assertEqual(meaning(store_of(FOR_EVER)[1]), (0, 0, [], {}, [{}, {}]))
        self.assertEqual(meaning(store_of([(1, None)])[1]), (0, 0, [], {}, []))

    def test_no_series_without_points(self):
        _, disk = store_of(FOR_EVER, put(1), take(0, 5), take(3, 9, TWO), put(10, 3))
        self.assertEqual(meaning(disk)[3], {"a{}": [(10, 3)]})

    def test_points_below_an_edge_count(self):
        store, disk = store_of(ROWS, put(1), put(20), clock(1000))
        self.assertEqual(meaning(disk)[3], {"a{}": [(1, 1), (20, 1)]})
        store.seal()
        self.assertEqual(meaning(disk)[3], {"a{}": [(1, 1), (20, 1)]})
        store.expire()
        self.assertEqual(meaning(disk), (3, 1000, [], {}, [{}, {}]))

    def test_octets_left_in_the_log_mean_nothing(self):
        disk = changed_disk({"log-5": FILES["log-5"] + deed_octets(put(30))[:-1]})
        self.assertEqual(meaning(disk), MEANS)
        Store(disk)
        self.assertEqual(meaning(disk), MEANS)

    def test_opening_syncing_sealing_and_merging_change_none(self):
        draw = Draw(173)
        for _ in range(15):
            store, disk = store_of(ROWS)
            plain = plain_behind(store.rules(), [])
            expired = False
            for _ in range(40):
                deed = drawn_deed(draw, plain)
                if outcome(store.do, deed) is None and deed[0] not in ("view", "unview"):
                    plain.do(deed)
                before = meaning(disk)
                way = draw.below(9)
                if way == 8:
                    store.expire()
                    expired = True
                elif way < 5:
                    [store.sync, store.seal, store.merge, lambda: store.merge(True), lambda: Store(disk.copied())][way]()
                    self.assertEqual(meaning(disk), before)
                elif way == 5:
                    store = Store(disk)
                    self.assertEqual(meaning(disk), before)
                done, now, views, points, _ = meaning(disk)
                self.assertEqual((done, now, views), (store.done(), store.clock(), store.views()))
                edge = plain.rules().edge(0, now)
                for text, row in points.items():
                    self.assertTrue(row)
                wanted = {one.text(): plain._between(one, edge if expired else 0, 999) for one in (ONE, TWO)}
                for text, row in wanted.items():
                    self.assertEqual([point for point in points.get(text, []) if point[0] >= (edge if expired else 0)], row)


if __name__ == "__main__":
    unittest.main()
