"""Snapshots: what a store answers as it is at one moment, and what is unlike in two of them [166 to 168]."""

from everygrain.answers import ask
from everygrain.asking import ask_standing, ask_stretch
from everygrain.errors import InvalidSnapshot
from everygrain.series import in_order


class Snapshot:
    """A snapshot of a store; only the store makes one, of a state that is never changed."""

    def __init__(self, state):
        self._state = state

    def rules(self):
        """The rules of the store."""
        return self._state.rules()

    def clock(self):
        """The clock of the store then."""
        return self._state.clock()

    def done(self):
        """The number of the deeds done then."""
        return self._state.done()

    def points(self, series, low, high):
        """The points of a series from low on and ahead of high."""
        return self._state.points(series, low, high)

    def folds(self, series, low, high, step):
        """The folds of the windows of one length from low on and ahead of high."""
        return self._state.folds(series, low, high, step)

    def series(self):
        """The series that had a point that stood at the last grain, in order."""
        return self._state.series()

    def ask(self, query):
        """The rows of a query."""
        return ask(self._state, query)

    def views(self):
        """The names and the texts of the views, ascending by name."""
        return self._state.views()

    def read_view(self, name, low, high):
        """The rows of the view of this name, from low to high; this is no reading of the store's."""
        return self._state.read_view(name, low, high)


def changed(one, other, low, high):
    """The tuples (series, time, value, other value) of the points from low on and ahead of high that are unlike."""
    for value in (one, other):
        if not isinstance(value, Snapshot):
            raise InvalidSnapshot(value)
    if one.rules() != other.rules():
        raise InvalidSnapshot(other)
    ask_stretch(low, high)
    for snapshot in (one, other):
        ask_standing(snapshot.rules(), snapshot.clock(), low, high)
    rows = []
    for series in in_order(one.series() + other.series()):
        values = dict(one.points(series, low, high))
        others = dict(other.points(series, low, high))
        for time in sorted(set(list(values) + list(others))):
            if values.get(time) != others.get(time):
                rows.append((series, time, values.get(time), others.get(time)))
    return rows


def deeds_between(one, other, low, high):
    """The deeds that lead from the points of the one to those of the other."""
    return [_deed_of(row) for row in changed(one, other, low, high)]


def _deed_of(row):
    series, time, _, value = row
    if value is None:
        return "take", series, time, time + 1
    return "put", series, time, value
