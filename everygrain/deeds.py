"""Deeds: what is done to points and to the clock [81], and to the views of a store [111]."""

from everygrain.errors import ClockBack, Gone, InvalidDeed
from everygrain.kinds import is_count, is_integer, is_name
from everygrain.octets import is_printable
from everygrain.series import Series

_LONGEST_VIEW = 400


def is_deed(value):
    """Tell whether any value is a put, a take or a clock."""
    if not isinstance(value, tuple) or len(value) == 0:
        return False
    if value[0] == "put":
        return len(value) == 4 and isinstance(value[1], Series) and is_count(value[2]) and is_integer(value[3])
    if value[0] == "take":
        return len(value) == 4 and isinstance(value[1], Series) and _is_stretch(value[2], value[3])
    return value[0] == "clock" and len(value) == 2 and is_count(value[1])


def _is_stretch(low, high):
    return is_count(low) and is_count(high) and low < high


def is_view(name, text):
    """Tell whether any two values are a name and a text that a view may have; what the text tells is not asked."""
    return is_name(name) and is_printable(text) and 1 <= len(text) <= _LONGEST_VIEW


def is_view_deed(value):
    """Tell whether any value is a deed of views, which only a store does."""
    if not isinstance(value, tuple) or len(value) == 0:
        return False
    if value[0] == "view":
        return len(value) == 3 and is_view(value[1], value[2])
    return value[0] == "unview" and len(value) == 2 and is_name(value[1])


def ask_deed(deed, rules, clock):
    """Ask for a deed that is not refused under these rules at this clock [82]."""
    if not is_deed(deed):
        raise InvalidDeed(deed)
    if deed[0] == "clock":
        if deed[1] < clock:
            raise ClockBack(deed[1])
    elif not rules.stands(0, deed[2], clock):
        raise Gone(deed[2], 0)
