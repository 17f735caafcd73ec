"""What several parts ask of the values that are handed in, and the errors that they raise for others."""

from everygrain.errors import Gone, InvalidSeries, InvalidTime, InvalidWindow, InvalidWindows
from everygrain.kinds import is_count, is_positive
from everygrain.series import Series

_MOST_WINDOWS = 400


def ask_series(series):
    """Ask for a series."""
    if not isinstance(series, Series):
        raise InvalidSeries(series)


def ask_time(time):
    """Ask for a time."""
    if not is_count(time):
        raise InvalidTime(time)


def ask_stretch(low, high):
    """Ask for two times of which the low one is not above the high one."""
    if not is_count(low) or not is_count(high) or low > high:
        raise InvalidWindow((low, high))


def ask_windows(low, high, step):
    """Ask for windows of one length, from low on and ahead of high, that are not too many."""
    if not is_count(low) or not is_count(high) or not is_positive(step) or not _tiles(high - low, step):
        raise InvalidWindows((low, high, step))


def _tiles(distance, step):
    return 0 <= distance <= _MOST_WINDOWS * step and distance % step == 0


def ask_standing(rules, clock, low, high):
    """Ask that all times from low on and ahead of high stand at grain 0."""
    if low < high and not rules.stands(0, low, clock):
        raise Gone(low, 0)


def ask_told(rules, clock, low, high, step):
    """Ask that each of the windows from low on and ahead of high is told."""
    for start in range(low, high, step):
        # It raises Gone for the first one that is not.
        rules.teller(start, step, clock)
