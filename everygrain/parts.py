"""The parts of a text: runs of small letters, digits and hyphens, and other signs one by one [141]."""

from everygrain.errors import Malformed
from everygrain.kinds import NAME_SIGNS

_DIGITS = "0123456789"


def parts_of(text):
    """The parts of a text, in order; blanks are none, but part two runs."""
    parts = []
    run = ""
    # A blank behind the text ends its last run.
    for sign in text + " ":
        if sign in NAME_SIGNS:
            run = run + sign
            continue
        if run != "":
            parts.append(run)
            run = ""
        if sign != " ":
            parts.append(sign)
    return parts


def count_of(part):
    """The count that a text tells by decimal digits without a 0 in front, or None for any other text [151]."""
    if part == "" or not all([sign in _DIGITS for sign in part]):
        return None
    if part[0] == "0" and part != "0":
        return None
    return int(part)


class PartReader:
    """Parts that are read from the first one on."""

    def __init__(self, parts):
        self._parts = list(parts)
        self._at = 0

    def ahead(self):
        """The next part, which stays unread, or None behind the last one."""
        if self._at < len(self._parts):
            return self._parts[self._at]
        return None

    def read(self):
        """Read the next part; behind the last one it is None."""
        part = self.ahead()
        self._at = self._at + 1
        return part

    def place(self):
        """The number of the parts that are read."""
        return self._at

    def following(self, count):
        """A reader of its own of so many of the next parts, or of all that are left if there are fewer."""
        return PartReader(self._parts[self._at:self._at + count])


def read_whole(text, most, read_all):
    """What a function reads of the parts of a text; Malformed if some are left, or if there are more than the most."""
    if not isinstance(text, str):
        raise Malformed()
    parts = parts_of(text)
    if len(parts) > most:
        raise Malformed()
    reader = PartReader(parts)
    told = read_all(reader)
    if reader.ahead() is not None:
        raise Malformed()
    return told
