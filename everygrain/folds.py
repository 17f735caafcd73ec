"""Folds: of some points their count, sum, least and greatest value, first and last point [51 to 57]."""

from everygrain.errors import Crossing, InvalidFold, InvalidPoints, InvalidRows, TooMany
from everygrain.kinds import is_count, is_integer, is_list
from everygrain.ratios import fraction

_MOST_POINTS = 400


def _is_point(value):
    return isinstance(value, tuple) and len(value) == 2 and is_count(value[0]) and is_integer(value[1])


def is_points(value):
    """Tell whether any value is a row of points."""
    if not is_list(value):
        return False
    if not all([_is_point(point) for point in value]):
        return False
    return all([point[0] < following[0] for point, following in zip(value, value[1:])])


def _is_rows(value):
    return is_list(value) and all([is_points(row) for row in value])


def fold_of(rows):
    """The fold of a list of rows, one for each series."""
    if not _is_rows(rows):
        raise InvalidRows(rows)
    told = None
    for row in rows:
        told = _put_beside(told, _fold_of_row(row))
    return told


def fold(points):
    """The fold of one row."""
    if not is_points(points):
        raise InvalidPoints(points)
    return _fold_of_row(points)


def _fold_of_row(points):
    if len(points) == 0:
        return None
    values = [value for time, value in points]
    return len(values), sum(values), min(values), max(values), points[0], points[-1]


def _has_parts(value):
    """Tell whether any value has the parts of a fold, whether or not any points have them together."""
    if not isinstance(value, tuple) or len(value) != 6:
        return False
    if not is_count(value[0]) or value[0] == 0:
        return False
    return all([is_integer(part) for part in value[1:4]]) and _is_point(value[4]) and _is_point(value[5])


def is_fold(value):
    """Tell whether any value is the fold of any list of rows."""
    if value is None:
        return True
    if not _has_parts(value):
        return False
    if value[0] == 1:
        return _is_of_one(value)
    return value[4][0] <= value[5][0] and _adds_up(value)


def is_row_fold(value):
    """Tell whether any value is the fold of any one row."""
    if not is_fold(value):
        return False
    # Times in a row are unlike, so so many points need so many times.
    return value is None or value[5][0] - value[4][0] >= value[0] - 1


def _is_of_one(parts):
    only = parts[4][1]
    return parts[4] == parts[5] and all([part == only for part in parts[1:4]])


def _certain_values(parts):
    """The values that any two or more points with these parts have: the first, the last, and the utmost ones."""
    ends = [parts[4][1], parts[5][1]]
    return ends + [value for value in parts[2:4] if value not in ends]


def _adds_up(parts):
    """Tell whether so many integers, two or more, are as the parts tell."""
    count, total, least, greatest = parts[:4]
    certain = _certain_values(parts)
    if min(certain) < least or max(certain) > greatest:
        return False
    free = count - len(certain)
    # So many free values between the utmost ones have any sum between the utmost sums.
    return free >= 0 and free * least <= total - sum(certain) <= free * greatest


def points_of(fold):
    """Any row of points with this fold."""
    if not is_row_fold(fold):
        raise InvalidFold(fold)
    if fold is None:
        return []
    if fold[0] > _MOST_POINTS:
        raise TooMany(fold[0])
    first, last = fold[4], fold[5]
    if fold[0] == 1:
        return [first]
    between = [(first[0] + 1 + at, value) for at, value in enumerate(_values_between(fold))]
    return [first] + between + [last]


def _values_between(parts):
    """Values that the points between the first and the last one may have."""
    certain = _certain_values(parts)
    free = _spread(parts[0] - len(certain), parts[1] - sum(certain), parts[2], parts[3])
    return certain[2:] + free


def _spread(count, total, least, greatest):
    """So many values with this sum, none below the least and none above the greatest."""
    if least == greatest:
        return [least] * count
    most, over = divmod(total - count * least, greatest - least)
    values = [greatest] * most
    if over > 0:
        values.append(least + over)
    return values + [least] * (count - len(values))


def _ask_fold(value):
    if not is_fold(value):
        raise InvalidFold(value)


def joined(one, other):
    """The fold of two stretches, the other one behind the one."""
    _ask_fold(one)
    _ask_fold(other)
    if one is None:
        return other
    if other is None:
        return one
    if other[4][0] <= one[5][0]:
        raise Crossing(other[4][0])
    return _summed(one, other) + (one[4], other[5])


def beside(one, other):
    """The fold of two lists of rows, those of the other one behind those of the one."""
    _ask_fold(one)
    _ask_fold(other)
    return _put_beside(one, other)


def _put_beside(one, other):
    if one is None:
        return other
    if other is None:
        return one
    first, last = one[4], one[5]
    if other[4][0] < first[0]:
        first = other[4]
    if other[5][0] >= last[0]:
        last = other[5]
    return _summed(one, other) + (first, last)


def _summed(one, other):
    """All but the first and the last point of two folds together."""
    return one[0] + other[0], one[1] + other[1], min(one[2], other[2]), max(one[3], other[3])


def mean(fold):
    """The fraction of the sum by the count, or None for None."""
    _ask_fold(fold)
    if fold is None:
        return None
    return fraction(fold[1], fold[0])


def delta(fold):
    """The last value less the first one, or None for None."""
    _ask_fold(fold)
    if fold is None:
        return None
    return fold[5][1] - fold[4][1]


def rate(fold):
    """The fraction of the delta by the time that it took, or None if it took none, or for None."""
    _ask_fold(fold)
    if fold is None or fold[5][0] == fold[4][0]:
        return None
    return fraction(delta(fold), fold[5][0] - fold[4][0])
