"""Views: texts of queries without their first and last time [161]."""

from everygrain.asking import ask_windows
from everygrain.errors import InvalidQuery, Malformed
from everygrain.parts import read_whole
from everygrain.phrases import Phrase, read_count, read_fill, read_function, read_key, read_selection
from everygrain.queries import Query
from everygrain.selections import has

_LONGEST = 400
# More than any view has.
_MOST_PARTS = 120


class View:
    """A view, made of any of its texts; no call changes it."""

    def __init__(self, text):
        phrase, step = _view_by(text)
        self._phrase = phrase
        self._step = step
        self._text = phrase.around(f"every {step}")
        if len(self._text) > _LONGEST:
            raise InvalidQuery(text)

    def __eq__(self, other):
        return isinstance(other, View) and self._text == other._text

    def text(self):
        """The plainest text."""
        return self._text

    def step(self):
        """The length of the windows."""
        return self._step

    def query(self, low, high):
        """The query for the windows from low on and ahead of high."""
        ask_windows(low, high, self._step)
        return Query(self._phrase.around(f"from {low} to {high} every {self._step}"))

    def means(self, series):
        """Tell whether a series is meant."""
        return has(self._phrase.selection, series)


def _view_by(text):
    """The phrase and the step of the text of a view."""
    try:
        return read_whole(text, _MOST_PARTS, _read_view)
    except Malformed:
        raise InvalidQuery(text) from None


def _read_view(parts):
    function = read_function(parts)
    selection = read_selection(parts)
    step = read_count(parts, "every", 1)
    key = read_key(parts)
    return Phrase(function, selection, key, read_fill(parts)), step
