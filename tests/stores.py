"""What the tests of stores use."""

from everygrain import errors
from everygrain.disks import Disk
from everygrain.grains import Rules
from everygrain.plain import Plain
from everygrain.series import read_series
from everygrain.stores import Store

ROWS = [(1, 8), (4, 20), (8, 40)]
FOR_EVER = [(1, 8), (4, 20), (8, None)]
TEXTS = ["a{}", "load{host=a}", "load{host=b}"]
ALL = [read_series(text) for text in TEXTS]
ONE, TWO, THREE = ALL
VIEWS = ["sum of all every 4", "mean of host=* every 8 by host", "last of !name=a every 1 fill before", "count of name=a every 4"]


def put(time, value=1, series=ONE):
    return ("put", series, time, value)


def take(low, high, series=ONE):
    return ("take", series, low, high)


def clock(now):
    return ("clock", now)


class Told(Disk):
    """A disk that tells what was done to it."""

    def __init__(self):
        Disk.__init__(self)
        self.calls = []

    def append(self, name, octets):
        Disk.append(self, name, octets)
        self.calls.append(("append", name, list(octets)))

    def sync(self, name):
        Disk.sync(self, name)
        self.calls.append(("sync", name))

    def drop(self, name):
        Disk.drop(self, name)
        self.calls.append(("drop", name))

    def since(self):
        """What was done since this was last asked."""
        calls, self.calls = self.calls, []
        return calls

    def words(self):
        """Likewise, without the octets."""
        return [" ".join(call[:2]) for call in self.since()]


def told_of(disk):
    """A Told with the same files as a disk, as many of their octets synced."""
    other = Told()
    copy = disk.copied()
    other._files, other._certain = copy._files, copy._certain
    return other


def outcome(call, *places):
    """What a call returns, or the error that it raises, told so that two are compared."""
    try:
        return call(*places)
    except errors.GrainError as error:
        return (type(error).__name__, vars(error))


def store_of(rows, *deeds):
    """A store on a new Told, to which deeds are done."""
    disk = Told()
    store = Store(disk, Rules(rows))
    for deed in deeds:
        store.do(deed)
    return store, disk


def plain_behind(rules, deeds):
    """The plain list behind deeds, of which those of views change nothing."""
    plain = Plain(rules)
    for deed in deeds:
        if deed[0] not in ("view", "unview"):
            plain.do(deed)
    return plain


def drawn_deed(draw, plain, views=True):
    """A deed that may be refused, but for its form."""
    way = draw.below(14 if views else 12)
    edge = plain.rules().edge(0, plain.clock())
    time = max(0, edge - 2) + draw.below(22)
    if way < 7:
        return ("put", draw.one_of(ALL), time, draw.within(-5, 9))
    if way < 10:
        return ("take", draw.one_of(ALL), time, time + draw.within(1, 9))
    if way < 12:
        return ("clock", max(0, plain.clock() - 1 + draw.below(7)))
    if way == 12:
        return ("view", draw.one_of(["v", "w", "v-2"]), draw.one_of(VIEWS))
    return ("unview", draw.one_of(["v", "w"]))


def windows_at(plain):
    """Windows of each grain around the edges, some of which are gone."""
    rules, now = plain.rules(), plain.clock()
    for grain in range(len(rules)):
        length = rules.length(grain)
        edge = rules.edge(grain, now)
        for low in (max(0, edge - length), edge, edge + 3 * length):
            for many in (1, 2):
                yield low, low + many * 4 * length, many * length
        yield edge, edge, length


def check_like_plain(case, store, plain):
    """A store answers as a plain list, in points, folds, series, rules and clock."""
    case.assertEqual((store.rules(), store.clock()), (plain.rules(), plain.clock()))
    case.assertEqual(store.series(), plain.series())
    edge = plain.rules().edge(0, plain.clock())
    for series in ALL:
        for low, high in ((edge, edge + 60), (edge + 3, edge + 9), (max(0, edge - 1), edge + 5), (0, 0)):
            case.assertEqual(outcome(store.points, series, low, high), outcome(plain.points, series, low, high))
        for low, high, step in windows_at(plain):
            case.assertEqual(outcome(store.folds, series, low, high, step), outcome(plain.folds, series, low, high, step))
