"""Rows of points in few octets: their times by the changes of their distances, and then their values [61, 64, 65]."""

from everygrain.errors import InvalidPoints, InvalidTimes, Malformed
from everygrain.folds import is_points
from everygrain.kinds import is_count, is_list
from everygrain.octets import Reader, number_octets, signed_octets
from everygrain.ways import pack_values, unpack_values


def _is_times(value):
    if not is_list(value) or not all([is_count(time) for time in value]):
        return False
    return all([distance > 0 for distance in _differences(value)])


def _differences(numbers):
    return [number - ahead for ahead, number in zip(numbers, numbers[1:])]


def pack_times(times):
    """The octets of a row of times."""
    if not _is_times(times):
        raise InvalidTimes(times)
    octets = number_octets(len(times))
    for time in times[:1]:
        octets.extend(number_octets(time))
    distances = _differences(times)
    for distance in distances[:1]:
        octets.extend(number_octets(distance - 1))
    for change in _differences(distances):
        octets.extend(signed_octets(change))
    return octets


def unpack_times(reader):
    """Read a row of times, told just as `pack_times` tells it."""
    # Only what was read without an error moves the reader that was passed.
    ahead = reader.copied()
    times = _read_times(ahead)
    reader.take(reader.left() - ahead.left())
    return times


def _read_times(reader):
    count = reader.number()
    times = []
    distance = 0
    while len(times) < count:
        if len(times) == 0:
            times.append(reader.number())
        else:
            distance = _read_distance(reader, len(times), distance)
            times.append(times[-1] + distance)
    return times


def _read_distance(reader, place, ahead):
    """The distance of the time at a place of the row, from 1 on, behind the distance ahead of it."""
    if place == 1:
        return reader.number() + 1
    distance = ahead + reader.signed()
    if distance < 1:
        raise Malformed()
    return distance


def pack(points):
    """The octets of a row of points."""
    if not is_points(points):
        raise InvalidPoints(points)
    return pack_times([time for time, value in points]) + pack_values([value for time, value in points])


def read_points(reader):
    """Read a row of points, told just as `pack` tells it."""
    times = unpack_times(reader)
    values = unpack_values(reader, len(times))
    return list(zip(times, values))


def unpack(octets):
    """The row of points of which these octets are the pack."""
    reader = Reader(octets)
    points = read_points(reader)
    if reader.left() > 0:
        raise Malformed()
    return points
