"""States: what a store has besides its files, and how it answers [122, 123, 126, 162, 163]."""

from everygrain.answers import ask
from everygrain.asking import ask_series, ask_standing, ask_stretch, ask_told, ask_windows
from everygrain.deeds import ask_deed
from everygrain.errors import InvalidDeed, InvalidQuery, NoView, TooManyViews
from everygrain.folds import fold, joined
from everygrain.kinds import is_name
from everygrain.layers import Layer, all_laid, laid, series_of
from everygrain.rolls import MOST_VIEWS
from everygrain.series import in_order, read_series
from everygrain.views import View


class State:
    """The rules, the clock, the deeds done, the views, the points and the cells of a store.

    Its layers, the eldest first, and its cells, a dict for each grain from 1 on, are never changed, but replaced.
    """

    def __init__(self, rules, clock, done):
        self._rules = rules
        self._clock = clock
        self._done = done
        self._views = {}
        self.layers = []
        self.memory = Layer()
        self.cells = [{} for _ in rules.rows[1:]]

    def copied(self):
        """An equal state of its own."""
        other = State(self._rules, self._clock, self._done)
        other._views = dict(self._views)
        other.layers = list(self.layers)
        other.memory = self.memory.copied()
        other.cells = list(self.cells)
        return other

    def judged(self, deed):
        """A deed as the log has it; the errors are those of a store that refuses it."""
        if not _is_of_views(deed):
            ask_deed(deed, self._rules, self._clock)
            return deed
        if not is_name(deed[1]):
            raise InvalidDeed(deed)
        if deed[0] == "unview":
            self.view(deed[1])
            return deed
        text = _plainest_text(deed)
        if deed[1] not in self._views and len(self._views) >= MOST_VIEWS:
            raise TooManyViews(MOST_VIEWS)
        return deed[0], deed[1], text

    def do(self, deed):
        """Do a deed that was judged."""
        if deed[0] == "put":
            self.memory.put(deed[1], deed[2], deed[3])
        elif deed[0] == "take":
            self.memory.take(deed[1], deed[2], deed[3])
        elif deed[0] == "clock":
            self._clock = deed[1]
        elif deed[0] == "view":
            self.show(deed[1], deed[2])
        else:
            self._views.pop(deed[1])
        self._done += 1

    def show(self, name, text):
        """Have a view of this name and text."""
        self._views[name] = View(text)

    def rules(self):
        """The rules."""
        return self._rules

    def clock(self):
        """The clock."""
        return self._clock

    def done(self):
        """The number of the deeds done."""
        return self._done

    def view(self, name):
        """The view of this name."""
        if not is_name(name) or name not in self._views:
            raise NoView(name)
        return self._views[name]

    def views(self):
        """The names and the texts of the views, ascending by name."""
        return [(name, self._views[name].text()) for name in sorted(self._views)]

    def read_view(self, name, low, high):
        """The rows of the view of this name, from low to high."""
        return ask(self, self.view(name).query(low, high))

    def series(self):
        """The series that have a point that stands at the last grain, in order."""
        edge = self._rules.edge(len(self._rules) - 1, self._clock)
        layers = self._all_layers()
        found = [series for series in series_of(layers) if _reaches(all_laid(layers, series), edge)]
        for cells in self.cells:
            found.extend([read_series(text) for text in cells if _reaches(cells[text], edge)])
        return in_order(found)

    def points(self, series, low, high):
        """The points of a series from low on and ahead of high."""
        ask_series(series)
        ask_stretch(low, high)
        ask_standing(self._rules, self._clock, low, high)
        return laid(self._all_layers(), series, low, high)

    def folds(self, series, low, high, step):
        """The folds of the windows of one length from low on and ahead of high."""
        ask_series(series)
        ask_windows(low, high, step)
        ask_told(self._rules, self._clock, low, high, step)
        parts = [[] for _ in range(low, high, step)]
        for time, told in self._parts(series, low, high):
            parts[(time - low) // step].append(told)
        return [_joined_all(row) for row in parts]

    def _parts(self, series, low, high):
        """Tuples of a time and a fold: the cells and the points from low on and ahead of high, ascending."""
        text = series.text()
        parts = [(time, fold([(time, value)])) for time, value in laid(self._all_layers(), series, low, high)]
        for cells in self.cells:
            # A cell that has a time of a told window lies in it whole.
            parts.extend([cell for cell in cells.get(text, []) if low <= cell[0] < high])
        return sorted(parts)

    def _all_layers(self):
        return self.layers + [self.memory]


def _is_of_views(value):
    """Tell whether any value has the form of a deed of views, whatever its name and its text are."""
    if not isinstance(value, tuple) or len(value) == 0:
        return False
    return (value[0] == "view" and len(value) == 3) or (value[0] == "unview" and len(value) == 2)


def _plainest_text(deed):
    """The plainest text of the view that a deed makes."""
    try:
        return View(deed[2]).text()
    except InvalidQuery:
        raise InvalidDeed(deed) from None


def _reaches(row, edge):
    """Tell whether one of some points, or of some cells, is not below an edge."""
    return any([item[0] >= edge for item in row])


def _joined_all(folds):
    """The fold of stretches that follow one another."""
    whole = None
    for told in folds:
        whole = joined(whole, told)
    return whole
