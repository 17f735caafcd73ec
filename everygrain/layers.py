"""Layers: what some deeds in a row did, the points that stand by them and the stretches that they took [91 to 96]."""

from everygrain.asking import ask_series, ask_stretch, ask_time
from everygrain.deeds import is_deed
from everygrain.errors import InvalidDeed, InvalidLayers, InvalidTruth
from everygrain.kinds import is_list
from everygrain.series import in_order


def _joined(stretches):
    """Stretches ascending, joined where they touch or overlap."""
    rows = []
    for low, high in sorted(stretches):
        if len(rows) > 0 and low <= rows[-1][1]:
            rows[-1] = (rows[-1][0], max(rows[-1][1], high))
        else:
            rows.append((low, high))
    return rows


def _lies_in(time, stretches):
    return any([low <= time < high for low, high in stretches])


def _untaken(points, stretches):
    """A dict of those of some points that lie in no stretch."""
    return {time: value for time, value in points if not _lies_in(time, stretches)}


class Layer:
    """A layer, at first empty; it knows no rules and no clock."""

    def __init__(self):
        # By the texts of the series, of which each one has a point or a stretch.
        self._series = {}
        self._points = {}
        self._taken = {}

    def __eq__(self, other):
        return isinstance(other, Layer) and self._points == other._points and self._taken == other._taken

    def put(self, series, time, value):
        """Let a series have a value at a time."""
        deed = ("put", series, time, value)
        if not is_deed(deed):
            raise InvalidDeed(deed)
        self._hold(series)
        self._points[series.text()][time] = value

    def take(self, series, low, high):
        """Take the points of a series from low on and ahead of high, here and beneath."""
        deed = ("take", series, low, high)
        if not is_deed(deed):
            raise InvalidDeed(deed)
        self._hold(series)
        text = series.text()
        self._points[text] = _untaken(list(self._points[text].items()), [(low, high)])
        self._taken[text] = _joined(self._taken[text] + [(low, high)])

    def lay(self, series, points, stretches):
        """Lay points, a dict from times to values, and stretches of a series of which nothing is here yet."""
        if len(points) > 0 or len(stretches) > 0:
            self._hold(series)
            self._points[series.text()] = dict(points)
            self._taken[series.text()] = _joined(stretches)

    def look(self, series, time):
        """Tell whether there is a point at a time, or the time is taken, or open."""
        ask_series(series)
        ask_time(time)
        values = self._points.get(series.text(), {})
        if time in values:
            return "point", values[time]
        if _lies_in(time, self.taken(series)):
            return ("taken",)
        return ("open",)

    def points(self, series):
        """The points of a series, ascending."""
        ask_series(series)
        values = self._points.get(series.text(), {})
        return [(time, values[time]) for time in sorted(values)]

    def taken(self, series):
        """The stretches of a series, ascending and joined."""
        ask_series(series)
        return list(self._taken.get(series.text(), []))

    def series(self):
        """The series that have a point or a stretch, in order."""
        return in_order(list(self._series.values()))

    def is_empty(self):
        """Tell whether there is no point and no stretch."""
        return len(self._series) == 0

    def copied(self):
        """An equal layer of its own."""
        other = Layer()
        for series in self.series():
            other.lay(series, dict(self.points(series)), self.taken(series))
        return other

    def _hold(self, series):
        text = series.text()
        if text not in self._series:
            self._series[text] = series
            self._points[text] = {}
            self._taken[text] = []


def _ask_layers(layers):
    if not is_list(layers) or not all([isinstance(layer, Layer) for layer in layers]):
        raise InvalidLayers(layers)


def laid_at(layers, series, time):
    """The value that stands at a time in a row of layers, the eldest first, or None."""
    _ask_layers(layers)
    ask_series(series)
    ask_time(time)
    for layer in reversed(layers):
        told = layer.look(series, time)
        if told[0] == "point":
            return told[1]
        if told[0] == "taken":
            return None
    return None


def laid(layers, series, low, high):
    """The points that stand from low on and ahead of high in a row of layers, the eldest first."""
    _ask_layers(layers)
    ask_series(series)
    ask_stretch(low, high)
    return [(time, value) for time, value in all_laid(layers, series) if low <= time < high]


def all_laid(layers, series):
    """All points of a series that stand in a row of layers, ascending."""
    values = {}
    for layer in layers:
        values = _untaken(list(values.items()), layer.taken(series))
        values.update(dict(layer.points(series)))
    return [(time, values[time]) for time in sorted(values)]


def series_of(layers):
    """The series that have a point or a stretch in any of some layers, in order."""
    series = []
    for layer in layers:
        series.extend(layer.series())
    return in_order(series)


def merged(older, newer, deepest=False):
    """A new layer in the place of two; as the deepest one it needs no stretches."""
    if not isinstance(older, Layer) or not isinstance(newer, Layer):
        raise InvalidLayers((older, newer))
    if not isinstance(deepest, bool):
        raise InvalidTruth(deepest)
    both = Layer()
    for series in in_order(older.series() + newer.series()):
        points = _untaken(older.points(series), newer.taken(series))
        points.update(dict(newer.points(series)))
        stretches = older.taken(series) + newer.taken(series)
        if deepest:
            stretches = []
        both.lay(series, points, stretches)
    return both


def above(layer, edge):
    """A new layer with what a layer has from a time on."""
    if not isinstance(layer, Layer):
        raise InvalidLayers(layer)
    ask_time(edge)
    rest = Layer()
    for series in layer.series():
        points = {time: value for time, value in layer.points(series) if time >= edge}
        stretches = [(max(low, edge), high) for low, high in layer.taken(series) if high > edge]
        rest.lay(series, points, stretches)
    return rest
