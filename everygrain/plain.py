"""The plain list: all points that were put and not taken, kept for ever and folded for each question [82 to 86]."""

from everygrain.asking import ask_series, ask_standing, ask_stretch, ask_told, ask_windows
from everygrain.deeds import ask_deed
from everygrain.errors import InvalidRules
from everygrain.folds import fold
from everygrain.grains import Rules
from everygrain.series import in_order


class Plain:
    """A plain list with rules, at first at the clock 0 and without points."""

    def __init__(self, rules):
        if not isinstance(rules, Rules):
            raise InvalidRules(rules)
        self._rules = rules
        self._clock = 0
        self._done = 0
        self._series = {}
        self._values = {}

    def do(self, deed):
        """Do a deed."""
        ask_deed(deed, self._rules, self._clock)
        if deed[0] == "put":
            self._put(deed[1], deed[2], deed[3])
        elif deed[0] == "take":
            self._take(deed[1], deed[2], deed[3])
        else:
            self._clock = deed[1]
        self._done += 1

    def rules(self):
        """The rules."""
        return self._rules

    def clock(self):
        """The clock."""
        return self._clock

    def done(self):
        """The number of the deeds that were done."""
        return self._done

    def series(self):
        """The series that have a point that stands at the last grain, in order."""
        edge = self._rules.edge(len(self._rules) - 1, self._clock)
        texts = [text for text, values in self._values.items() if max(values, default=-1) >= edge]
        return in_order([self._series[text] for text in texts])

    def points(self, series, low, high):
        """The points of a series from low on and ahead of high."""
        ask_series(series)
        ask_stretch(low, high)
        ask_standing(self._rules, self._clock, low, high)
        return self._between(series, low, high)

    def folds(self, series, low, high, step):
        """The folds of the windows of one length from low on and ahead of high."""
        ask_series(series)
        ask_windows(low, high, step)
        ask_told(self._rules, self._clock, low, high, step)
        rows = [[] for _ in range(low, high, step)]
        for time, value in self._between(series, low, high):
            rows[(time - low) // step].append((time, value))
        return [fold(row) for row in rows]

    def _put(self, series, time, value):
        text = series.text()
        self._series[text] = series
        self._values.setdefault(text, {})[time] = value

    def _take(self, series, low, high):
        values = self._values.get(series.text(), {})
        for time in list(values):
            if low <= time < high:
                del values[time]

    def _between(self, series, low, high):
        values = self._values.get(series.text(), {})
        return [(time, values[time]) for time in sorted(values) if low <= time < high]
