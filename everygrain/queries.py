"""Queries: texts that ask for a table of answers, with a row for each group of series [151, 152]."""

from everygrain.asking import ask_windows
from everygrain.errors import InvalidQuery, InvalidWindows, Malformed
from everygrain.parts import read_whole
from everygrain.phrases import Phrase, read_count, read_fill, read_function, read_key, read_selection, read_word

_MOST_PARTS = 120
_SIGNS = ("+", "-", "*", "/")
_BEST = ("top", "bottom")


class PlainAsk:
    """A plain query; its best is `top` or `bottom`, with the most rows that stay, or both are None."""

    def __init__(self, phrase, windows, best, most):
        self.phrase = phrase
        self.windows = windows
        self.best = best
        self.most = most

    def text(self):
        """The plainest text."""
        low, high, step = self.windows
        text = self.phrase.around(f"from {low} to {high} every {step}")
        if self.best is None:
            return text
        return f"{text} {self.best} {self.most}"


class JoinedAsk:
    """A joined query, with one sign between two others of the same windows."""

    def __init__(self, sign, one, other):
        self.sign = sign
        self.one = one
        self.other = other
        self.windows = one.windows

    def text(self):
        """The plainest text."""
        return f"({self.one.text()}) {self.sign} ({self.other.text()})"


class Query:
    """A query, made of any of its texts; no call changes it."""

    def __init__(self, text):
        self._asked = _asked_by(text)
        self._text = self._asked.text()

    def __eq__(self, other):
        return isinstance(other, Query) and self._text == other._text

    def text(self):
        """The plainest text."""
        return self._text

    def windows(self):
        """The tuple (LOW, HIGH, STEP)."""
        return self._asked.windows

    def asked(self):
        """What is asked: a PlainAsk or a JoinedAsk, which no call changes."""
        return self._asked


def _asked_by(text):
    try:
        return read_whole(text, _MOST_PARTS, _read_query)
    except (Malformed, InvalidWindows):
        raise InvalidQuery(text) from None


def _read_query(parts):
    if parts.ahead() != "(":
        return _read_plain(parts)
    one = _read_in_brackets(parts)
    sign = read_word(parts, *_SIGNS)
    other = _read_in_brackets(parts)
    if one.windows != other.windows:
        raise Malformed()
    return JoinedAsk(sign, one, other)


def _read_in_brackets(parts):
    read_word(parts, "(")
    asked = _read_query(parts)
    read_word(parts, ")")
    return asked


def _read_plain(parts):
    function = read_function(parts)
    selection = read_selection(parts)
    low = read_count(parts, "from", 0)
    high = read_count(parts, "to", 0)
    step = read_count(parts, "every", 1)
    ask_windows(low, high, step)
    key = read_key(parts)
    phrase = Phrase(function, selection, key, read_fill(parts))
    best = parts.ahead()
    if best not in _BEST:
        return PlainAsk(phrase, (low, high, step), None, None)
    return PlainAsk(phrase, (low, high, step), best, read_count(parts, best, 1))
