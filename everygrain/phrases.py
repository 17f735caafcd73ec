"""What queries and views have in common: how their parts are read and told [151, 161]."""

from everygrain.errors import Malformed
from everygrain.kinds import is_name
from everygrain.parts import count_of
from everygrain.selections import MOST_PARTS, Selection
from everygrain.trees import plainest_text, read_tree

_FUNCTIONS = ("count", "sum", "least", "greatest", "first", "last", "mean", "delta", "rate")
_FILLS = ("zero", "before")


class Phrase:
    """What a query or a view asks of its windows: a function of a selection, by a key, with a fill.

    The key and the fill are None where there is none.
    """

    def __init__(self, function, selection, key, fill):
        self.function = function
        self.selection = selection
        self.key = key
        self.fill = fill

    def around(self, windows):
        """The plainest text, with the text of the windows where it stands in it."""
        text = f"{self.function} of {self.selection.text()} {windows}"
        if self.key is not None:
            text = f"{text} by {self.key}"
        if self.fill is not None:
            text = f"{text} fill {self.fill}"
        return text


def read_word(parts, *words):
    """Read a part that is one of some words."""
    part = parts.read()
    if part not in words:
        raise Malformed()
    return part


def read_count(parts, word, least):
    """Read a word and the count behind it, which is not below the least one."""
    read_word(parts, word)
    count = count_of(parts.read() or "")
    if count is None or count < least:
        raise Malformed()
    return count


def read_function(parts):
    """Read the word of a function, and the `of` behind it."""
    function = read_word(parts, *_FUNCTIONS)
    read_word(parts, "of")
    return function


def read_selection(parts):
    """Read a selection, which ends ahead of the first part that cannot go on with it."""
    # One part more than a selection has is enough to see whether it has too many.
    few = parts.following(MOST_PARTS + 1)
    tree = read_tree(few)
    if few.place() > MOST_PARTS:
        raise Malformed()
    for _ in range(few.place()):
        parts.read()
    return Selection(plainest_text(tree))


def read_key(parts):
    """Read `by` and a key, if they stand here; None if not."""
    if parts.ahead() != "by":
        return None
    parts.read()
    key = parts.read()
    if not is_name(key):
        raise Malformed()
    return key


def read_fill(parts):
    """Read `fill` and its word, if they stand here; None if not."""
    if parts.ahead() != "fill":
        return None
    parts.read()
    return read_word(parts, *_FILLS)
