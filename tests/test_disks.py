"""[31] to [36]: disks."""

import unittest

from everygrain.disks import Disk
from everygrain.errors import InvalidChoice, InvalidCount, InvalidName, InvalidOctets, NoFile, PowerCut
from tests.support import Draw, check_error, check_examples, check_given, odd_values

NO_NAMES = ["", "A", "a b", "a_b", "a" * 25, "log.1", "\u00e4", "a\n"] + [
    value for value in odd_values(str) if not isinstance(value, (dict, set))]
NO_OCTETS = odd_values(list, tuple) + [[256], [-1], [True], [0, 1.0], ([0],)]


def told(disk):
    """All that a disk tells of its files."""
    return [(name, disk.read(name), disk.synced(name)) for name in disk.names()]


def small_disk():
    """A disk with three files: of the one all octets are synced, of the next ones some, and none."""
    disk = Disk()
    disk.append("b", [1, 2, 3])
    disk.sync("b")
    disk.append("a", [4, 5])
    disk.sync("a")
    disk.append("a", [6, 7, 8])
    disk.append("c", [9])
    return disk


class ExamplesTest(unittest.TestCase):
    def test_examples_of_the_interface(self):
        check_examples(self, r"""
>>> from everygrain.disks import Disk
>>> disk = Disk()
>>> disk.append("log-1", [1, 2])
>>> disk.sync("log-1")
>>> disk.append("log-1", (3, 4, 5))
>>> [disk.read("log-1"), disk.synced("log-1"), disk.names(), disk.left()]
[[1, 2, 3, 4, 5], 2, ['log-1'], None]
>>> [disk.remains({"log-1": 2}).read("log-1"), disk.remains({}).read("log-1"), disk.remains({"log-1": 9}).synced("log-1")]
[[1, 2, 3, 4], [1, 2], 5]
>>> disk.limit(3)
>>> disk.sync("log-1")
>>> disk.append("log-2", [])
>>> [disk.left(), disk.names(), disk.copied().left(), disk.copied() == disk]
[1, ['log-1', 'log-2'], None, True]
>>> disk.append("log-2", [6, 7])
raises PowerCut()
""")


class FilesTest(unittest.TestCase):
    def test_deeds(self):
        disk = Disk()
        self.assertEqual((disk.names(), disk.left()), ([], None))
        self.assertIsNone(disk.append("b", [1]))
        self.assertIsNone(disk.append("-", ()))
        self.assertIsNone(disk.append("9" * 24, [255]))
        self.assertEqual(told(disk), [("-", [], 0), ("9" * 24, [255], 0), ("b", [1], 0)])
        self.assertIsNone(disk.sync("b"))
        disk.append("b", (0, 2))
        self.assertEqual((disk.read("b"), disk.synced("b")), ([1, 0, 2], 1))
        self.assertIsNone(disk.sync(name="b"))
        self.assertEqual((disk.read(name="b"), disk.synced(name="b")), ([1, 0, 2], 3))
        self.assertIsNone(disk.drop(name="b"))
        self.assertEqual(disk.names(), ["-", "9" * 24])
        disk.append("b", [7])
        self.assertEqual((disk.read("b"), disk.synced("b")), ([7], 0))

    def test_no_names(self):
        disk = small_disk()
        for value in NO_NAMES:
            for call in (disk.sync, disk.drop, disk.read, disk.synced):
                check_given(self, InvalidName, call, value)
            for octets in ([1], [256]):
                check_error(self, InvalidName(value), disk.append, value, octets)
        check_given(self, InvalidName, disk.read, ["a"])
        self.assertEqual(disk, small_disk())

    def test_no_octets(self):
        disk = small_disk()
        for value in NO_OCTETS:
            check_error(self, InvalidOctets(value), disk.append, "a", value)
            check_error(self, InvalidOctets(value), disk.append, "new", value)
        self.assertEqual(disk, small_disk())

    def test_no_files(self):
        disk = small_disk()
        for call in (disk.sync, disk.drop, disk.read, disk.synced):
            check_error(self, NoFile("d"), call, "d")
            check_error(self, NoFile("-a"), call, "-a")
        disk.drop("a")
        for call in (disk.sync, disk.drop, disk.read, disk.synced):
            check_error(self, NoFile("a"), call, "a")

    def test_what_is_handed_in_is_not_kept_and_what_is_told_is_free(self):
        disk, octets = Disk(), [1, 2]
        disk.append("a", octets)
        octets.append(3)
        disk.read("a").append(4)
        disk.names().append("b")
        self.assertEqual(told(disk), [("a", [1, 2], 0)])
        disk.append("a", octets)
        self.assertEqual((disk.read("a"), octets), ([1, 2, 1, 2, 3], [1, 2, 3]))


class StepsTest(unittest.TestCase):
    def do_all(self, disk):
        """Seven deeds of ten steps."""
        disk.append("a", [1, 2, 3])
        disk.sync("a")
        disk.append("b", [])
        disk.append("a", [4, 5])
        disk.sync("b")
        disk.drop("b")
        disk.append("c", [6])

    def test_each_number_of_steps(self):
        wanted = [
            [], [("a", [1], 0)], [("a", [1, 2], 0)], [("a", [1, 2, 3], 0)], [("a", [1, 2, 3], 3)],
            [("a", [1, 2, 3], 3), ("b", [], 0)], [("a", [1, 2, 3, 4], 3), ("b", [], 0)],
            [("a", [1, 2, 3, 4, 5], 3), ("b", [], 0)], [("a", [1, 2, 3, 4, 5], 3), ("b", [], 0)],
            [("a", [1, 2, 3, 4, 5], 3)], [("a", [1, 2, 3, 4, 5], 3), ("c", [6], 0)]]
        for steps in range(14):
            disk = Disk()
            self.assertIsNone(disk.limit(steps))
            self.assertEqual(disk.left(), steps)
            if steps < 10:
                check_error(self, PowerCut(), self.do_all, disk)
                self.assertEqual((told(disk), disk.left()), (wanted[steps], 0))
            else:
                self.do_all(disk)
                self.assertEqual((told(disk), disk.left()), (wanted[10], steps - 10))

    def test_limits(self):
        disk = Disk()
        disk.limit(1)
        disk.append("a", [1])
        self.assertEqual(disk.left(), 0)
        # No step is left, but nothing was cut yet: a new limit counts.
        disk.limit(2)
        disk.sync("a")
        disk.limit(count=None)
        self.do_all(disk)
        self.assertIsNone(disk.left())
        disk.limit(10 ** 12)
        disk.append("a", [])
        self.assertEqual(disk.left(), 10 ** 12 - 1)
        for value in odd_values(int, type(None)) + [-1]:
            check_given(self, InvalidCount, disk.limit, value)
        self.assertEqual(disk.left(), 10 ** 12 - 1)

    def test_no_step_left(self):
        calls = [("append", "a", [1]), ("append", "a", []), ("append", "new", []), ("append", "new", [1]),
                 ("sync", "a"), ("drop", "a")]
        for name, *arguments in calls:
            disk = small_disk()
            disk.limit(0)
            check_error(self, PowerCut(), getattr(disk, name), *arguments)
            self.assertEqual(disk, small_disk())

    def test_other_errors_take_no_step_and_come_first(self):
        for steps in (0, 1):
            disk = small_disk()
            disk.limit(steps)
            check_error(self, InvalidName("A"), disk.append, "A", [1])
            check_error(self, InvalidOctets([256]), disk.append, "a", [256])
            check_error(self, InvalidName(None), disk.sync, None)
            check_error(self, NoFile("d"), disk.sync, "d")
            check_error(self, InvalidName("B"), disk.drop, "B")
            check_error(self, NoFile("d"), disk.drop, "d")
            check_error(self, InvalidCount(-1), disk.limit, -1)
            self.assertEqual((disk.left(), disk == small_disk()), (steps, True))
            # It is not dead by any of these.
            disk.limit(2)
            disk.sync("a")


class DeadTest(unittest.TestCase):
    def dead_disk(self):
        disk = small_disk()
        disk.limit(2)
        check_error(self, PowerCut(), disk.append, "a", [1, 2, 3])
        return disk

    def test_deeds_of_a_dead_disk(self):
        disk = self.dead_disk()
        wanted = [("a", [4, 5, 6, 7, 8, 1, 2], 2), ("b", [1, 2, 3], 3), ("c", [9], 0)]
        for name in ("a", "d", "A", None):
            for octets in ([1], [], [256], None):
                check_error(self, PowerCut(), disk.append, name, octets)
            check_error(self, PowerCut(), disk.sync, name)
            check_error(self, PowerCut(), disk.drop, name)
        for value in (None, 0, 5, -1, True, "a"):
            check_error(self, PowerCut(), disk.limit, value)
        self.assertEqual((told(disk), disk.left()), (wanted, 0))

    def test_a_dead_disk_answers_as_before(self):
        disk = self.dead_disk()
        check_error(self, InvalidName("A"), disk.read, "A")
        check_error(self, NoFile("d"), disk.synced, "d")
        check_error(self, InvalidChoice({"d": 1}), disk.remains, {"d": 1})
        for other in (disk.remains({"a": 4}), disk.copied()):
            self.assertIsNone(other.left())
            other.append("a", [1])
            other.sync("b")
            other.drop("c")
            other.limit(0)
        self.assertEqual(disk.remains({"a": 4}).read("a"), [4, 5, 6, 7, 8, 1])
        self.assertEqual(disk.copied(), disk)

    def test_dead_from_the_first_call_behind_the_cut(self):
        for call, *arguments in (("limit", None), ("limit", -1), ("append", "A", [1]), ("append", "a", [256]),
                                 ("append", "a", []), ("sync", "d"), ("sync", None), ("drop", "d"), ("drop", "a")):
            check_error(self, PowerCut(), getattr(self.dead_disk(), call), *arguments)

    def test_dead_by_each_deed(self):
        for deed in (lambda disk: disk.append("a", []), lambda disk: disk.sync("a"), lambda disk: disk.drop("a")):
            disk = small_disk()
            disk.limit(0)
            check_error(self, PowerCut(), deed, disk)
            check_error(self, PowerCut(), disk.limit, None)


class RemainsTest(unittest.TestCase):
    def test_choices(self):
        disk = small_disk()
        for many in range(6):
            rest = disk.remains({"a": many, "b": many})
            octets = [4, 5, 6, 7, 8][:2 + many]
            self.assertEqual(told(rest), [("a", octets, len(octets)), ("b", [1, 2, 3], 3), ("c", [], 0)])
            self.assertIsNone(rest.left())
        self.assertEqual(disk.remains(choice={"c": 10 ** 30}).read("c"), [9])
        self.assertEqual(told(disk), told(small_disk()))

    def test_no_choices(self):
        disk = small_disk()
        for value in odd_values(dict) + [{"d": 1}, {"a": -1}, {"a": True}, {"a": None}, {"a": 1.0}, {"A": 1}, {1: 1},
                                         {None: 0}, {("a",): 1}, {"a": 1, "d": 0}, [("a", 1)]]:
            check_given(self, InvalidChoice, disk.remains, value)
        self.assertEqual(disk, small_disk())
        self.assertEqual(Disk().remains({}), Disk())

    def test_no_disk_changes_another_one(self):
        disk = small_disk()
        choice = {"a": 2}
        rest, copy = disk.remains(choice), disk.copied()
        choice["a"] = 0
        wanted = told(rest)
        disk.append("a", [1])
        disk.sync("c")
        disk.drop("b")
        self.assertEqual((told(rest), copy), (wanted, small_disk()))
        copy.append("c", [2])
        copy.drop("a")
        rest.append("b", [3])
        self.assertEqual(told(disk), [("a", [4, 5, 6, 7, 8, 1], 2), ("c", [9], 1)])
        self.assertEqual(told(rest), [("a", [4, 5, 6, 7], 4), ("b", [1, 2, 3, 3], 3), ("c", [], 0)])


class EqualTest(unittest.TestCase):
    def test_equal_and_unlike(self):
        one, other = small_disk(), Disk()
        for name, octets in (("c", [9]), ("a", [4, 5]), ("b", [1]), ("b", [2, 3])):
            other.append(name, octets)
        self.assertFalse(one == other)
        other.sync("a")
        other.sync("b")
        other.append("a", [6, 7, 8])
        self.assertTrue(one == other)
        self.assertFalse(one != other)
        # Neither limits count nor whether a disk is dead.
        other.limit(0)
        self.assertTrue(one == other)
        check_error(self, PowerCut(), other.sync, "c")
        self.assertTrue(one == other)

    def test_files_of_the_same_octets_with_other_synced_ones(self):
        one, other = Disk(), Disk()
        for disk in (one, other):
            disk.append("a", [1, 2])
        one.sync("a")
        self.assertFalse(one == other)
        other.sync("a")
        self.assertTrue(one == other)
        other.append("b", [])
        self.assertFalse(one == other)
        one.append("c", [])
        self.assertFalse(one == other)

    def test_other_octets_or_other_names_of_as_many(self):
        disks = []
        for name, octets in (("a", [1, 2]), ("a", [2, 1]), ("a", [1, 3]), ("b", [1, 2]), ("a", [1, 2, 3])):
            disks.append(Disk())
            disks[-1].append(name, octets)
        for disk in disks:
            self.assertEqual([disk == other for other in disks], [disk is other for other in disks])

    def test_a_file_that_was_dropped_leaves_nothing(self):
        one, other = Disk(), small_disk()
        for name in other.names():
            other.drop(name)
        self.assertTrue(one == other)
        for disk in (one, other):
            disk.append("b", [1, 2, 3])
        self.assertTrue(one == other)
        self.assertTrue(one.remains({}) == other.remains({}))

    def test_no_disks(self):
        for value in (None, 0, "disk", {}, []):
            self.assertFalse(Disk() == value)
            self.assertTrue(Disk() != value)


class Model:
    """A disk as plainly as can be: files as lists of (octet, whether it is synced)."""

    def __init__(self):
        self.files = {}

    def do(self, word, name, octets):
        if word == "append":
            self.files[name] = self.files.get(name, []) + [(octet, False) for octet in octets]
        elif name not in self.files:
            return False
        elif word == "sync":
            self.files[name] = [(octet, True) for octet, _ in self.files[name]]
        else:
            del self.files[name]
        return True

    def told(self):
        return [(name, [octet for octet, _ in self.files[name]], sum(synced for _, synced in self.files[name]))
                for name in sorted(self.files)]


class DrawnTest(unittest.TestCase):
    def test_drawn_deeds(self):
        draw = Draw(31)
        for _ in range(60):
            disk, model, steps = Disk(), Model(), 0
            disk.limit(1000)
            for _ in range(30):
                word, name = draw.one_of(["append", "append", "sync", "drop"]), draw.one_of(["a", "b", "c"])
                octets = [draw.below(256) for _ in range(draw.below(4))]
                arguments = (name, octets) if word == "append" else (name,)
                if model.do(word, name, octets):
                    getattr(disk, word)(*arguments)
                    steps += max(1, len(octets)) if word == "append" else 1
                else:
                    check_error(self, NoFile(name), getattr(disk, word), *arguments)
                self.assertEqual((told(disk), disk.left()), (model.told(), 1000 - steps))


if __name__ == "__main__":
    unittest.main()
