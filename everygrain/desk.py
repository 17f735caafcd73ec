"""The desk: it takes lines, does what they tell to a store on a disk of its own, and answers in lines [174 to 177]."""

from everygrain.answers import told
from everygrain.disks import Disk
from everygrain.errors import ClockBack, Gone, InvalidLines, InvalidWindows, NoView, PowerCut, TooManyViews
from everygrain.examiner import examine
from everygrain.kinds import is_list
from everygrain.lines import read_line
from everygrain.stores import Store


def _do_deed(store, disk, items):
    store.do(items)
    return [f"done {store.done()}"]


def _sync(store, disk, items):
    store.sync()
    return [f"synced {store.synced()}"]


def _seal(store, disk, items):
    return _yes_or_no(store.seal())


def _merge(store, disk, items):
    return _yes_or_no(store.merge(len(items) > 1))


def _expire(store, disk, items):
    return _yes_or_no(store.expire())


def _yes_or_no(truth):
    if truth:
        return ["yes"]
    return ["no"]


def _ask(store, disk, items):
    return told(store.ask(items[1]))


def _read(store, disk, items):
    return told(store.read_view(items[1], items[2], items[3]))


def _points(store, disk, items):
    return [f"{time} {value}" for time, value in store.points(items[1], items[2], items[3])]


def _views(store, disk, items):
    return [f"{name} {text}" for name, text in store.views()]


def _fresh(store, disk, items):
    return [str(low) for low in store.fresh(items[1])]


def _limit(store, disk, items):
    disk.limit(items[1])
    return [f"limit {items[1]}"]


_ANSWERS = {
    "put": _do_deed, "take": _do_deed, "clock": _do_deed, "view": _do_deed, "unview": _do_deed, "sync": _sync,
    "seal": _seal, "merge": _merge, "expire": _expire, "ask": _ask, "read": _read, "points": _points, "views": _views,
    "fresh": _fresh, "cut": _limit}


def _answer(store, disk, items):
    """The lines of the answer to a line of the store, also if it is refused."""
    answer = _ANSWERS[items[0]]
    try:
        return answer(store, disk, items)
    except Gone as gone:
        return [f"gone {gone.time} {gone.grain}"]
    except ClockBack as back:
        return [f"back {back.now}"]
    except NoView as missing:
        return [f"no view {missing.name}"]
    except TooManyViews as many:
        return [f"too many views {many.count}"]
    except InvalidWindows as wrong:
        low, high, step = wrong.given
        return [f"no windows {low} {high} {step}"]


def _fault_lines(disk):
    faults = [" ".join([str(item) for item in fault]) for fault in examine(disk)]
    return faults or ["no fault"]


class Desk:
    """A desk with a new disk and a store on it."""

    def __init__(self, rules):
        self._rules = rules
        self._lines = []
        # The store asks for rules on a new disk.
        self._start(Disk())

    def do(self, line):
        """Do a line; the lines of its answer."""
        items = read_line(line)
        self._lines.append(line)
        if items[0] == "examine":
            return _fault_lines(self._disk)
        if items[0] == "open":
            return self._start_again(items[1:])
        if self._is_cut:
            return ["cut"]
        try:
            return _answer(self._store, self._disk, items)
        except PowerCut:
            self._is_cut = True
            return ["cut"]

    def journal(self):
        """The lines that were answered, in order."""
        return list(self._lines)

    def disk(self):
        """A copy of the disk."""
        return self._disk.copied()

    def _start(self, disk):
        self._disk = disk
        self._store = Store(disk, self._rules)
        self._is_cut = False

    def _start_again(self, counts):
        """Let the power go, with so many unsynced octets of each file remaining as the only count tells, or none."""
        count = sum(counts)
        self._start(self._disk.remains({name: count for name in self._disk.names()}))
        return [f"open {self._store.done()}"]


def read_desk(rules, lines):
    """A new desk behind these lines."""
    desk = Desk(rules)
    if not is_list(lines):
        raise InvalidLines(lines)
    for line in lines:
        desk.do(line)
    return desk
