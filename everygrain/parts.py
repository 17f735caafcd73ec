"""The parts of a text: runs of small letters, digits and hyphens, and other signs one by one [141]."""

from everygrain.kinds import NAME_SIGNS


def parts_of(text):
    """The parts of a text, in order; blanks are none, but part two runs."""
    parts = []
    run = ""
    # A blank behind the text ends its last run.
    for sign in text + " ":
        if sign in NAME_SIGNS:
            run = run + sign
            continue
        if run != "":
            parts.append(run)
            run = ""
        if sign != " ":
            parts.append(sign)
    return parts


class PartReader:
    """Parts that are read from the first one on."""

    def __init__(self, parts):
        self._parts = list(parts)
        self._at = 0

    def ahead(self):
        """The next part, which stays unread, or None behind the last one."""
        if self._at < len(self._parts):
            return self._parts[self._at]
        return None

    def read(self):
        """Read the next part; behind the last one it is None."""
        part = self.ahead()
        self._at = self._at + 1
        return part
