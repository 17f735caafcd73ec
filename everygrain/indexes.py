"""Indexes: series that are found by their tags [144]."""

from everygrain.asking import ask_series
from everygrain.errors import InvalidName, InvalidWord
from everygrain.kinds import is_name, is_word
from everygrain.selections import chosen
from everygrain.series import in_order, word_of


class Index:
    """An index of series, at first empty."""

    def __init__(self):
        # By their texts.
        self._series = {}

    def put(self, series):
        """Put a series in, if no equal one is."""
        ask_series(series)
        self._series[series.text()] = series

    def drop(self, series):
        """Take a series out, if it is in."""
        ask_series(series)
        self._series.pop(series.text(), None)

    def series(self):
        """The series that are in, in order."""
        return in_order(list(self._series.values()))

    def chosen(self, selection):
        """Those that a selection means, in order."""
        return chosen(selection, self.series())

    def of_tag(self, key, word):
        """Those whose word with a key is this one, in order."""
        if not is_name(key):
            raise InvalidName(key)
        if not is_word(word):
            raise InvalidWord(word)
        return [series for series in self.series() if word_of(series, key) == word]

    def words(self, key):
        """The unlike words that they have with a key, ascending."""
        if not is_name(key):
            raise InvalidName(key)
        words = [word_of(series, key) for series in self.series()]
        return sorted({word for word in words if word is not None})
