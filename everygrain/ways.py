"""Four ways to tell a row of values, and the one of them that takes the fewest octets [62 to 64]."""

from everygrain.errors import InvalidCount, InvalidValues, InvalidWay, Malformed
from everygrain.kinds import is_count, is_integer, is_list
from everygrain.octets import number_octets, signed_count


def _plainly(values):
    return [signed_count(value) for value in values]


def _by_differences(values):
    return [signed_count(value - ahead) for ahead, value in zip([0] + values, values)]


def _by_runs(values):
    counts = []
    begun = 0
    for at in range(1, len(values) + 1):
        if at == len(values) or values[at] != values[begun]:
            counts.extend([signed_count(values[begun]), at - begun - 1])
            begun = at
    return counts


def _by_dictionary(values):
    words = sorted(set(values))
    places = {word: at for at, word in enumerate(words)}
    first = [signed_count(word) for word in words[:1]]
    further = [word - ahead - 1 for ahead, word in zip(words, words[1:])]
    return [len(words)] + first + further + [places[value] for value in values]


# Each way tells counts, so that the octets it takes can be reckoned without making them.
_COUNTS_OF = (_plainly, _by_differences, _by_runs, _by_dictionary)


def _counts_of(values, way):
    counts_of = _COUNTS_OF[way]
    return counts_of(list(values))


def _octets_of(counts):
    octets = []
    for count in counts:
        octets.extend(number_octets(count))
    return octets


def _size_of(counts):
    """The number of the octets that tell these counts: 7 bits in each, and 0 takes one, too."""
    return sum([max(1, (count.bit_length() + 6) // 7) for count in counts])


def _ask_values(values):
    if not is_list(values) or not all([is_integer(value) for value in values]):
        raise InvalidValues(values)


def told_in(values, *, way=0):
    """The octets of a row of values in one way."""
    _ask_values(values)
    if not is_count(way) or way >= len(_COUNTS_OF):
        raise InvalidWay(way)
    return _octets_of(_counts_of(values, way))


def pack_values(values):
    """The way that takes the fewest octets, and then these."""
    _ask_values(values)
    sizes = [_size_of(_counts_of(values, way)) for way in range(len(_COUNTS_OF))]
    way = sizes.index(min(sizes))
    return [way] + _octets_of(_counts_of(values, way))


def _read_plainly(reader, count):
    return [reader.signed() for _ in range(count)]


def _read_differences(reader, count):
    values = []
    value = 0
    for _ in range(count):
        value = value + reader.signed()
        values.append(value)
    return values


def _read_runs(reader, count):
    values = []
    while len(values) < count:
        value = reader.signed()
        length = reader.number() + 1
        if length > count - len(values):
            raise Malformed()
        values.extend([value] * length)
    return values


def _read_words(reader):
    size = reader.number()
    words = []
    while len(words) < size:
        if len(words) == 0:
            words.append(reader.signed())
        else:
            words.append(words[-1] + reader.number() + 1)
    return words


def _read_dictionary(reader, count):
    words = _read_words(reader)
    values = []
    for _ in range(count):
        at = reader.number()
        if at >= len(words):
            raise Malformed()
        values.append(words[at])
    return values


_READ_IN = (_read_plainly, _read_differences, _read_runs, _read_dictionary)


def _read_values(reader, count):
    way = reader.take(1)[0]
    if way >= len(_READ_IN):
        raise Malformed()
    read_in = _READ_IN[way]
    return read_in(reader, count)


def unpack_values(reader, count):
    """Read a row of so many values, told just as `pack_values` tells it."""
    if not is_count(count):
        raise InvalidCount(count)
    # Only what was read without an error moves the reader that was passed.
    ahead = reader.copied()
    values = _read_values(ahead, count)
    size = reader.left() - ahead.left()
    if reader.copied().take(size) != pack_values(values):
        raise Malformed()
    reader.take(size)
    return values
