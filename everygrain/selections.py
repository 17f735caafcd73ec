"""Selections: short texts that say which series are meant [141 to 143, 145]."""

from everygrain.asking import ask_series
from everygrain.errors import InvalidSelection, Malformed
from everygrain.kinds import is_name
from everygrain.parts import read_whole
from everygrain.series import MOST_TAGS, Series, in_order
from everygrain.trees import means, plainest_text, read_tree, tests_of

MOST_PARTS = 40
_LONGEST_WORD = 24


class Selection:
    """A selection, made of any of its texts; no call changes it."""

    def __init__(self, text):
        self._tree = _tree_of(text)
        self._text = plainest_text(self._tree)

    def __eq__(self, other):
        return isinstance(other, Selection) and self._text == other._text

    def text(self):
        """The plainest text."""
        return self._text


def _tree_of(text):
    try:
        return read_whole(text, MOST_PARTS, read_tree)
    except Malformed:
        raise InvalidSelection(text) from None


def _ask_selection(selection):
    if not isinstance(selection, Selection):
        raise InvalidSelection(selection)


def _is_meant(series, selection):
    words = dict(series.tags)
    words["name"] = series.name
    return means(selection._tree, words)


def has(selection, series):
    """Tell whether a series is meant."""
    _ask_selection(selection)
    ask_series(series)
    return _is_meant(series, selection)


def chosen(selection, series):
    """The series of a list that are meant, in order, of equal ones only one."""
    _ask_selection(selection)
    return [one for one in in_order(series) if _is_meant(one, selection)]


def parting(one, other):
    """Any series that just one of two selections means, or None if there is none."""
    _ask_selection(one)
    _ask_selection(other)
    tests = tests_of(one._tree) + tests_of(other._tree)
    keys = sorted({key for key, word in tests + [("name", None)]})
    choices = [(key, _words_to_try(key, tests)) for key in keys]
    words = _parting_words([one._tree, other._tree], choices, {})
    if words is None:
        return None
    return Series(words["name"], {key: words[key] for key in words if key != "name"})


def _words_to_try(key, tests):
    """The words with a key that can tell two series apart, None for no word among them."""
    tested = sorted({word for tested_key, word in tests if tested_key == key and word is not None})
    # No two selections have so many tests that none of these words is left.
    untested = [word for word in _some_words() if word not in tested][:1]
    if key == "name":
        return [word for word in tested if is_name(word)] + untested
    return [None] + tested + untested


def _some_words():
    """A few words that are names, too."""
    return ["a" * size for size in range(1, _LONGEST_WORD + 1)]


def _parting_words(trees, choices, words):
    """The words of a series that just one of two trees means, with these words and one of each choice, or None."""
    # Each series has its name and not too many tags besides.
    if len(words) > 1 + MOST_TAGS:
        return None
    if len(choices) == 0:
        if means(trees[0], words) != means(trees[1], words):
            return words
        return None
    key, options = choices[0]
    for option in options:
        more = dict(words)
        if option is not None:
            more[key] = option
        found = _parting_words(trees, choices[1:], more)
        if found is not None:
            return found
    return None
