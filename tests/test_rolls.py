"""[112] to [115]: rolls, and the names of files."""

import unittest

from everygrain.disks import Disk
from everygrain.errors import (
    GrainError, InvalidCount, InvalidDisk, InvalidKind, InvalidOctets, InvalidRecord, InvalidRoll)
from everygrain.grains import Rules
from everygrain.octets import frame, number_octets, text_octets
from everygrain.rolls import Roll, file_name, newest_roll, next_number, number_of, read_roll, roll_of
from tests.support import Draw, check_error, check_examples, check_given, odd_values
from tests.test_grains import LEAST, drawn_rows
from tests.test_logs import NO_NAMES, NO_VIEW_TEXTS

RULES = Rules([(1, 8), (4, 20), (8, None)])
GREATEST = 10 ** 18 - 1
PARTS = {"done": 3, "clock": 40, "rules": RULES, "log": 2, "layers": [5, 3], "cells": [None, 7], "views": [("v", "x")]}
NO_NUMBERS = odd_values() + [0, -1, 10 ** 18, 10 ** 19, "5", [5], 5.0, 10 ** 6000]


class ExamplesTest(unittest.TestCase):
    def test_examples_of_the_interface(self):
        check_examples(self, r"""
>>> from everygrain.disks import Disk
>>> from everygrain.grains import Rules
>>> from everygrain.octets import frame
>>> from everygrain.rolls import Roll, file_name, newest_roll, next_number, number_of, read_roll, roll_of
>>> roll = Roll(3, 40, Rules([(1, 8), (4, 20), (8, None)]), 2, [5, 3], [None, 7], [("v", "x")])
>>> [roll.record(), roll.files()]
[[3, 40, 3, 1, 8, 4, 20, 8, 0, 2, 2, 5, 3, 0, 7, 1, 1, 118, 1, 120], ['log-2', 'block-5', 'block-3', 'block-7']]
>>> [read_roll(roll.record()) == roll, file_name("log", 2), number_of("block-12"), number_of("block-012")]
[True, 'log-2', ('block', 12), None]
>>> disk = Disk()
>>> disk.append("roll-4", frame(roll.record()))
>>> disk.append("roll-9", [20, 3])
>>> [newest_roll(disk)[0], newest_roll(disk)[1] == roll, next_number(disk, "roll"), next_number(disk, "log")]
[4, True, 10, 1]
>>> [roll_of(frame(roll.record())) == roll, roll_of(frame(roll.record()) + [0, 0, 0]), newest_roll(Disk())]
[True, None, None]
>>> file_name("log", 0)
raises InvalidCount(0)
""")


def with_part(name, value):
    return Roll(**{**PARTS, name: value})


def views_of(many):
    return [(f"v{at}", "x" * (at + 1)) for at in range(many)]


def drawn_roll(draw):
    rows = drawn_rows(draw)
    numbers = [draw.within(1, 9) * 10 ** at + at for at in range(12)]
    layers = [numbers.pop(draw.below(len(numbers))) for _ in range(draw.below(5))]
    cells = [draw.one_of([None, numbers.pop(draw.below(len(numbers)))]) for _ in rows[1:]]
    return Roll(draw.below(500), draw.below(10 ** 12), Rules(rows), draw.within(1, GREATEST), layers, cells,
                views_of(draw.below(9)))


def plain_record(roll):
    """A record as plainly as can be."""
    octets = number_octets(roll.done) + number_octets(roll.clock) + number_octets(len(roll.rules.rows))
    for length, keep in roll.rules.rows:
        octets += number_octets(length) + number_octets(0 if keep is None else keep)
    octets += number_octets(roll.log) + number_octets(len(roll.layers))
    for number in roll.layers:
        octets += number_octets(number)
    for number in roll.cells:
        octets += number_octets(0 if number is None else number)
    octets += number_octets(len(roll.views))
    for name, text in roll.views:
        octets += text_octets(name) + text_octets(text)
    return octets


class RollTest(unittest.TestCase):
    def check_refused(self, **changed):
        parts = {**PARTS, **changed}
        with self.assertRaises(InvalidRoll) as caught:
            Roll(**parts)
        given = caught.exception.given
        self.assertIs(type(given), tuple)
        self.assertEqual(len(given), 7)
        for one, other in zip(given, parts.values()):
            self.assertIs(one, other)

    def test_attributes(self):
        roll = Roll(3, 40, RULES, 2, [5, 3], [None, 7], [("v", "x")])
        self.assertEqual((roll.done, roll.clock, roll.log, roll.layers, roll.cells, roll.views),
                         (3, 40, 2, (5, 3), (None, 7), (("v", "x"),)))
        self.assertTrue(roll.rules == RULES)
        for kind in (list, tuple):
            roll = Roll(**{**PARTS, **{name: kind(PARTS[name]) for name in ("layers", "cells", "views")}})
            self.assertEqual([type(part) for part in (roll.layers, roll.cells, roll.views)], [tuple] * 3)
            self.assertTrue(roll == Roll(**PARTS))

    def test_lists_that_are_changed_later(self):
        layers, cells, views = [5, 3], [None, 7], [("v", "x")]
        roll = Roll(3, 40, RULES, 2, layers, cells, views)
        self.assertEqual((layers, cells, views), ([5, 3], [None, 7], [("v", "x")]))
        layers.append(9)
        cells[0] = 11
        views.clear()
        roll.record().clear()
        roll.files().clear()
        self.assertTrue(roll == Roll(**PARTS))
        self.assertEqual(roll.record(), Roll(**PARTS).record())

    def test_done_clock_and_rules(self):
        for name in ("done", "clock"):
            for value in (0, 1, 10 ** 12, 10 ** 30):
                self.assertEqual(getattr(with_part(name, value), name), value)
            for value in odd_values() + [-1, "3", [3], 3.0]:
                self.check_refused(**{name: value})
        for value in odd_values() + [RULES.rows, list(RULES.rows), Rules]:
            self.check_refused(rules=value)

    def test_numbers_of_files(self):
        for value in (1, 9, 10 ** 12, GREATEST):
            self.assertEqual(with_part("log", value).log, value)
            self.assertEqual(with_part("layers", [value]).layers, (value,))
            self.assertEqual(with_part("cells", [value, None]).cells, (value, None))
        for value in NO_NUMBERS:
            self.check_refused(log=value)
            self.check_refused(layers=[value])
            self.check_refused(layers=[5, value])
            if value is not None:
                self.check_refused(cells=[value, None])
                self.check_refused(cells=(None, value))
        # The log may have the number of a block.
        self.assertEqual(with_part("log", 5).files(), ["log-5", "block-5", "block-3", "block-7"])

    def test_numbers_that_are_alike(self):
        for layers, cells in (([5, 5], [None, None]), ([5, 3, 5], [None, 7]), ([5], [5, None]), ([5, 3], [None, 3]),
                              ([], [7, 7]), ([1, 2, 3], [4, 1])):
            self.check_refused(layers=layers, cells=cells)
        self.assertEqual(with_part("layers", list(range(10, 400))).layers, tuple(range(10, 400)))

    def test_cells_for_each_grain_but_the_first(self):
        for many in range(1, 5):
            rules = Rules(LEAST[:many])
            self.assertEqual(Roll(0, 0, rules, 1, [], [None] * (many - 1), []).cells, (None,) * (many - 1))
            for other in range(6):
                if other != many - 1:
                    self.check_refused(rules=rules, cells=[None] * other)
                    self.check_refused(rules=rules, cells=tuple(range(50, 50 + other)))

    def test_parts_that_are_no_lists(self):
        for name in ("layers", "cells", "views"):
            for value in odd_values(list, tuple) + ["53", {5: 3}, 5]:
                self.check_refused(**{name: value})

    def test_views(self):
        for views in ([], views_of(1), views_of(8), tuple(views_of(8)), [("a", "y" * 400)], [("a-", "1"), ("a0", " ")]):
            self.assertEqual(with_part("views", views).views, tuple(views))
        for views in (views_of(9), [("b", "x"), ("a", "x")], [("a", "x"), ("a", "x")], [("a", "x"), ("a", "y")],
                      [("a0", "x"), ("a-", "x")], [("v",)], [("v", "x", "x")], [["v", "x"]], ["vx"], [None], [()],
                      [("v", "x"), None], [("v", "x"), ["w", "x"]]):
            self.check_refused(views=views)
        for value in NO_NAMES:
            self.check_refused(views=[(value, "x")])
        for value in NO_VIEW_TEXTS:
            self.check_refused(views=[("v", value)])
            self.check_refused(views=(("a", "x"), ("v", value)))

    def test_equal(self):
        roll = Roll(**PARTS)
        self.assertTrue(roll == Roll(3, 40, Rules(list(RULES.rows)), 2, (5, 3), (None, 7), (("v", "x"),)))
        self.assertFalse(roll != Roll(**PARTS))
        for changed in ({"done": 4}, {"clock": 41}, {"log": 3}, {"layers": [3, 5]}, {"layers": [5]}, {"cells": [7, None]},
                        {"cells": [None, None]}, {"views": []}, {"views": [("v", "y")]}, {"views": [("w", "x")]},
                        {"rules": Rules([(1, 8), (4, 20), (8, 99)])}, {"rules": Rules([(1, 8), (4, 20), (12, None)])}):
            other = Roll(**{**PARTS, **changed})
            self.assertFalse(roll == other)
            self.assertTrue(roll != other)
        for other in (None, 3, tuple(PARTS.values()), roll.record()):
            self.assertFalse(roll == other)

    def test_files(self):
        self.assertEqual(Roll(0, 0, Rules([(1, 8)]), 1, [], [], []).files(), ["log-1"])
        roll = Roll(0, 0, Rules(LEAST), 9, (12, 3, 40), (8, None, 2), ())
        self.assertEqual(roll.files(), ["log-9", "block-12", "block-3", "block-40", "block-8", "block-2"])


class RecordsTest(unittest.TestCase):
    def test_records_by_own_octets_and_read_again(self):
        draw = Draw(113)
        for _ in range(200):
            roll = drawn_roll(draw)
            record = roll.record()
            self.assertEqual(record, plain_record(roll))
            for given in (record, tuple(record)):
                self.assertTrue(read_roll(given) == roll)
        roll = Roll(0, 0, Rules([(1, None)]), 1, [], [], [])
        self.assertEqual(roll.record(), [0, 0, 1, 1, 0, 1, 0, 0])
        self.assertTrue(read_roll(record=[0, 0, 1, 1, 0, 1, 0, 0]) == roll)

    def check_no_record(self, record):
        for given in (record, tuple(record)):
            check_given(self, InvalidRecord, read_roll, given)
            self.assertIsNone(roll_of(frame(given)))

    def test_records_cut_and_with_octets_behind(self):
        draw = Draw(1130)
        for _ in range(20):
            record = drawn_roll(draw).record()
            for at in range(len(record)):
                self.check_no_record(record[:at])
            for more in ([0], [1], [128], record):
                self.check_no_record(record + more)

    def test_octets_near_a_record(self):
        for record in ([0, 0, 0, 1, 0, 0], [0, 0, 1, 1, 0, 0, 0, 0], [0, 0, 1, 2, 0, 1, 0, 0], [0, 0, 1, 0, 0, 1, 0, 0],
                       [0, 0, 2, 1, 8, 4, 11, 1, 0, 0, 0], [0, 0, 2, 1, 0, 4, 20, 1, 0, 0, 0], [0, 0, 2, 1, 8, 4, 20, 1, 0, 0],
                       [0, 0, 1, 1, 0, 1, 1, 0, 0], [0, 0, 1, 1, 0, 1, 2, 5, 5, 0], [0, 0, 2, 1, 8, 4, 20, 1, 1, 5, 5, 0],
                       [128, 0, 0, 1, 1, 0, 1, 0, 0], [0, 0, 129, 0, 1, 0, 1, 0, 0], [0, 0, 1, 1, 128, 0, 1, 0, 0],
                       [0, 0, 1, 1, 0, 129, 0, 0, 0], [0, 0, 1, 1, 0, 1, 128, 0, 0], [0, 0, 1, 1, 0, 1, 0, 128, 0],
                       [0, 0, 1, 1, 0, 1, 0, 1, 1, 118], [0, 0, 1, 1, 0, 1, 0, 1, 1, 118, 0], [0, 0, 1, 1, 0, 1, 0, 1, 0, 1, 120],
                       [0, 0, 1, 1, 0, 1, 0, 1, 1, 57, 1, 120], [0, 0, 1, 1, 0, 1, 0, 1, 1, 118, 1, 37],
                       [0, 0, 1, 1, 0, 1, 0, 2, 1, 118, 1, 120, 1, 118, 1, 121],
                       [0, 0, 1, 1, 0, 1, 0, 2, 1, 118, 1, 120, 1, 117, 1, 121],
                       [0, 0, 1, 1, 0] + number_octets(10 ** 18) + [0, 0], [0, 0] + number_octets(10 ** 30) + [1, 8],
                       [0, 0, 1, 1, 0, 1, 1] + number_octets(10 ** 6000) + [0],
                       [0, 0, 1, 1, 0, 1] + number_octets(10 ** 30) + [1, 8], [0, 0, 5, 1, 1, 2, 3, 4, 7, 12, 19, 24, 0, 1, 0, 0]):
            self.check_no_record(record)
        roll = read_roll([0, 0, 1, 1, 0, 1, 0, 2, 1, 117, 1, 121, 1, 118, 1, 120])
        self.assertEqual(roll.views, (("u", "y"), ("v", "x")))
        self.assertEqual(read_roll([0, 0, 1, 1, 0] + number_octets(GREATEST) + [0, 0]).log, GREATEST)
        views = [octet for name, text in views_of(9) for octet in text_octets(name) + text_octets(text)]
        self.check_no_record([0, 0, 1, 1, 0, 1, 0, 9] + views)

    def test_records_changed(self):
        """Whatever is read is the one roll whose record was read."""
        draw = Draw(1131)
        read = 0
        for _ in range(1500):
            record = drawn_roll(draw).record()
            record[draw.below(len(record))] = draw.one_of([0, 1, 2, 8, 128, draw.below(256)])
            try:
                roll = read_roll(record)
            except InvalidRecord as error:
                self.assertIs(error.given, record)
                continue
            read += 1
            self.assertEqual(plain_record(roll), record)
        self.assertGreater(read, 100)

    def test_no_octets(self):
        for value in odd_values(list, tuple) + [[256], [True], [-1], [1.0], (0, None), [[0]]]:
            check_given(self, InvalidOctets, read_roll, value)
            check_given(self, InvalidOctets, roll_of, value)


class NamesTest(unittest.TestCase):
    def test_names_and_numbers(self):
        for kind in ("roll", "log", "block"):
            for number in (1, 2, 9, 10, 99, 100, 10 ** 17, GREATEST):
                name = f"{kind}-{number}"
                self.assertEqual(file_name(kind, number), name)
                self.assertEqual(number_of(name), (kind, number))
                self.assertIs(type(number_of(name)), tuple)
            for digits in ("0", "01", "00", "", "-1", "+1", " 1", "1 ", "1_0", "1.0", "a", "1a", "0x1", "\u0661", "1\u00b2",
                           "\uff11", "1-", "1" * 19, "9" * 19, "1" * 25, "0" * 18, "1\n"):
                self.assertIsNone(number_of(f"{kind}-{digits}"), digits)
            self.assertEqual(number_of(f"{kind}-" + "9" * 18), (kind, GREATEST))
        for name in ("roll", "rolls-1", "Roll-1", "-1", "1", "roll1", "roll_1", "rol-1", "log--1", "block-1-1", " log-1",
                     "blocks-1", "lo-g1", "log-log-1", "roll-block-1", "view-1", "", "-"):
            self.assertIsNone(number_of(name), name)
        for value in odd_values() + [["log-1"], ("log", 1), b"log-1", 1]:
            self.assertIsNone(number_of(value))
        self.assertEqual((file_name(number=3, kind="log"), number_of(name="log-3")), ("log-3", ("log", 3)))

    def test_no_kinds_and_no_numbers(self):
        for kind in odd_values() + ["rolls", "Roll", "", "roll-", "view", ["roll"], b"log", ("roll", "log", "block")]:
            for number in (1, 0, None, 10 ** 18):
                check_error(self, InvalidKind(kind), file_name, kind, number)
            check_error(self, InvalidKind(kind), next_number, Disk(), kind)
        for number in NO_NUMBERS:
            for kind in ("roll", "log", "block"):
                check_error(self, InvalidCount(number), file_name, kind, number)


def disk_with(files):
    disk = Disk()
    for name, octets in files.items():
        disk.append(name, octets)
    return disk


class RollFilesTest(unittest.TestCase):
    def test_roll_of(self):
        draw = Draw(115)
        for _ in range(30):
            roll = drawn_roll(draw)
            octets = frame(roll.record())
            self.assertTrue(roll_of(octets) == roll)
            self.assertTrue(roll_of(octets=tuple(octets)) == roll)
            for at in range(len(octets)):
                self.assertIsNone(roll_of(octets[:at]))
                self.assertIsNone(roll_of(octets[:at] + [octets[at] ^ 1] + octets[at + 1:]))
            for more in ([0], [0, 0, 0], octets, [255]):
                self.assertIsNone(roll_of(octets + more))
                self.assertIsNone(roll_of(more + octets))
        for octets in ([], [0, 0, 0], frame([2, 8]), frame([0])):
            self.assertIsNone(roll_of(octets))

    def test_disks_with_several_rolls(self):
        rolls = [with_part("done", done) for done in range(3)]
        first, second, third = [frame(roll.record()) for roll in rolls]
        for files, number, at, following in (
                ({}, None, None, 1), ({"roll-1": first}, 1, 0, 2), ({"roll-1": first, "roll-2": second}, 2, 1, 3),
                ({"roll-9": first, "roll-10": second}, 10, 1, 11), ({"roll-10": first, "roll-9": second}, 10, 0, 11),
                ({"roll-1": first, "roll-2": second[:-1]}, 1, 0, 3), ({"roll-1": first, "roll-2": []}, 1, 0, 3),
                ({"roll-1": first, "roll-2": second + [0, 0, 0], "roll-3": third[:4]}, 1, 0, 4),
                ({"roll-1": first[:-1], "roll-2": second, "roll-3": frame([2, 8])}, 2, 1, 4),
                ({"roll-1": [], "roll-7": [1]}, None, None, 8), ({"roll-01": first, "roll-x": second}, None, None, 1),
                ({"roll-1": first, "roll-02": second, "roll-3x": third, "rolls-9": third}, 1, 0, 2),
                ({"log-1": first, "block-2": second, "stray": third}, None, None, 1),
                ({"roll-123456789012345678": first, "roll-99": second}, 123456789012345678, 0, 123456789012345679)):
            disk = disk_with(files)
            before = disk.copied()
            told = newest_roll(disk)
            if number is None:
                self.assertIsNone(told)
            else:
                self.assertIs(type(told), tuple)
                self.assertEqual(told[0], number)
                self.assertTrue(told[1] == rolls[at])
            self.assertEqual(next_number(disk, "roll"), following)
            self.assertTrue(disk == before)

    def test_files_that_a_roll_names_are_not_asked(self):
        roll = Roll(**PARTS)
        disk = disk_with({"roll-4": frame(roll.record())})
        self.assertTrue(newest_roll(disk=disk)[1] == roll)
        # All octets count, synced or not.
        disk.sync("roll-4")
        self.assertTrue(newest_roll(disk)[1] == roll)

    def test_next_number(self):
        disk = disk_with({"log-3": [], "log-12": [1], "log-9": [], "block-7": [], "block-0": [], "block-08": [],
                          "block-99x": [], "roll": [], "logs-40": [], "log-9999999999999999999": []})
        self.assertEqual([next_number(disk, kind) for kind in ("roll", "log", "block")], [1, 13, 8])
        self.assertEqual(next_number(kind="log", disk=disk), 13)

    def test_no_disks(self):
        for value in odd_values() + [{"roll-1": []}, Disk, [Disk()], Roll(**PARTS)]:
            check_given(self, InvalidDisk, newest_roll, value)
            for kind in ("roll", "view", None):
                check_error(self, InvalidDisk(value), next_number, value, kind)

    def test_a_disk_that_is_dead(self):
        disk = disk_with({"roll-4": frame(Roll(**PARTS).record())})
        disk.limit(0)
        with self.assertRaises(GrainError):
            disk.append("log-1", [1])
        self.assertEqual((newest_roll(disk)[0], next_number(disk, "roll")), (4, 5))


if __name__ == "__main__":
    unittest.main()
