"""Lines: what a desk takes [174]."""

from everygrain.errors import InvalidLine, InvalidQuery, InvalidText
from everygrain.kinds import is_name
from everygrain.parts import count_of
from everygrain.queries import Query
from everygrain.series import read_series
from everygrain.views import View

# The kinds of the further items of each line, by its first item.
_FORMS = {
    "put": ("series", "count", "value"), "take": ("series", "count", "count"), "clock": ("count",),
    "view": ("name", "view"), "unview": ("name",),
    "sync": (), "seal": (), "merge": ("last",), "expire": (),
    "ask": ("query",), "read": ("name", "count", "count"), "points": ("series", "count", "count"), "views": (),
    "fresh": ("name",), "cut": ("count",), "open": ("count",), "examine": ()}
# Lines that are whole with just their first item, too.
_ALONE = ("merge", "open")


def read_line(line):
    """What a line tells: a tuple of its first item and of what each further item tells; a deed is told as itself."""
    if not isinstance(line, str):
        raise InvalidLine(line)
    if line in _ALONE:
        return (line,)
    word = line.partition(" ")[0]
    form = _FORMS.get(word)
    if form is None:
        raise InvalidLine(line)
    # A text, which is the last item of its line, is all that is left, with its blanks.
    items = line.split(" ", len(form))
    if items[0] != word or len(items) != len(form) + 1:
        raise InvalidLine(line)
    told = [_read_item(kind, item) for kind, item in zip(form, items[1:])]
    if any([item is None for item in told]) or not _is_stretch(word, told):
        raise InvalidLine(line)
    return (word, *told)


def _is_stretch(word, told):
    """Tell whether the low and the high of a take, or of a line that asks for points, are as they should be."""
    if word == "take":
        return told[1] < told[2]
    return word != "points" or told[1] <= told[2]


def _read_item(kind, item):
    """What an item tells, or None if it is none of this kind."""
    if kind == "count":
        return count_of(item)
    if kind == "value":
        return _value_of(item)
    try:
        return _read_text(kind, item)
    except (InvalidText, InvalidQuery):
        return None


def _read_text(kind, item):
    if kind == "series":
        return read_series(item)
    if kind == "query":
        return Query(item)
    if kind == "view":
        return View(item).text()
    if kind == "name" and is_name(item):
        return item
    if kind == "last" and item == "last":
        return item
    return None


def _value_of(item):
    if not item.startswith("-"):
        return count_of(item)
    count = count_of(item[1:])
    if count is None or count == 0:
        return None
    return -count
