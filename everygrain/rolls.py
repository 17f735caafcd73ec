"""Rolls: what a store is but for the deeds of its log, and the names of its files [112 to 115]."""

from everygrain.deeds import is_view
from everygrain.disks import Disk
from everygrain.errors import (
    InvalidCount, InvalidDisk, InvalidKind, InvalidRecord, InvalidRoll, InvalidRules, Malformed, Short)
from everygrain.grains import Rules
from everygrain.kinds import is_count, is_list, is_positive
from everygrain.octets import Reader, frames, number_octets, text_octets

_KINDS = ("roll", "log", "block")
_MOST_DIGITS = 18
_GREATEST_NUMBER = 999999999999999999
MOST_VIEWS = 8


def _is_file_number(value):
    return is_positive(value) and value <= _GREATEST_NUMBER


def _is_roll(parts):
    done, clock, rules, log, layers, cells, views = parts
    if not is_count(done) or not is_count(clock) or not isinstance(rules, Rules) or not _is_file_number(log):
        return False
    return _are_blocks(layers, cells, len(rules)) and _are_views(views)


def _are_blocks(layers, cells, grains):
    """Tell whether values are the numbers of layer blocks and of the cell blocks of so many grains."""
    if not is_list(layers) or not is_list(cells) or len(cells) != grains - 1:
        return False
    numbers = _numbers_of(layers, cells)
    return all([_is_file_number(number) for number in numbers]) and len(set(numbers)) == len(numbers)


def _numbers_of(layers, cells):
    return list(layers) + [number for number in cells if number is not None]


def _are_views(views):
    if not is_list(views) or len(views) > MOST_VIEWS or not all([_is_view_row(row) for row in views]):
        return False
    return all([row[0] < following[0] for row, following in zip(views, views[1:])])


def _is_view_row(row):
    return isinstance(row, tuple) and len(row) == 2 and is_view(row[0], row[1])


class Roll:
    """What a store is but for the deeds of its log; no call changes it."""

    def __init__(self, done, clock, rules, log, layers, cells, views):
        parts = (done, clock, rules, log, layers, cells, views)
        if not _is_roll(parts):
            raise InvalidRoll(parts)
        self.done = done
        self.clock = clock
        self.rules = rules
        self.log = log
        self.layers = tuple(layers)
        self.cells = tuple(cells)
        self.views = tuple(views)

    def __eq__(self, other):
        if not isinstance(other, Roll) or self.rules != other.rules:
            return False
        if self.done != other.done or self.clock != other.clock or self.log != other.log:
            return False
        return self.layers == other.layers and self.cells == other.cells and self.views == other.views

    def files(self):
        """The names of the files that the roll names."""
        blocks = [file_name("block", number) for number in _numbers_of(self.layers, self.cells)]
        return [file_name("log", self.log)] + blocks

    def record(self):
        """The octets of the roll's record."""
        counts = [self.done, self.clock, len(self.rules)]
        for length, keep in self.rules.rows:
            counts.extend([length, keep or 0])
        counts.extend([self.log, len(self.layers)] + list(self.layers))
        counts.extend([number or 0 for number in self.cells] + [len(self.views)])
        octets = []
        for count in counts:
            octets.extend(number_octets(count))
        for name, text in self.views:
            octets.extend(text_octets(name) + text_octets(text))
        return octets


def _read_number_or_none(reader):
    """A number, or None for 0."""
    number = reader.number()
    if number == 0:
        return None
    return number


def _read_parts(reader):
    """The roll that a record tells, if it is told in the one right way."""
    done = reader.number()
    clock = reader.number()
    rows = [(reader.number(), _read_number_or_none(reader)) for _ in range(reader.number())]
    log = reader.number()
    layers = [reader.number() for _ in range(reader.number())]
    cells = [_read_number_or_none(reader) for _ in rows[1:]]
    views = [(reader.text(), reader.text()) for _ in range(reader.number())]
    return Roll(done, clock, Rules(rows), log, layers, cells, views)


def read_roll(record):
    """The roll of which these octets are the record."""
    reader = Reader(record)
    try:
        roll = _read_parts(reader)
    except (Short, Malformed, InvalidRules, InvalidRoll):
        raise InvalidRecord(record) from None
    if reader.left() > 0:
        raise InvalidRecord(record)
    return roll


def _ask_kind(kind):
    if kind not in _KINDS:
        raise InvalidKind(kind)


def file_name(kind, number):
    """The name of the file of a kind with a number."""
    _ask_kind(kind)
    if not _is_file_number(number):
        raise InvalidCount(number)
    return f"{kind}-{number}"


def number_of(name):
    """The kind and the number of the file with this name, or None for any value that is no such name."""
    if not isinstance(name, str):
        return None
    kind, _, digits = name.partition("-")
    if kind not in _KINDS or not _is_told_number(digits):
        return None
    return kind, int(digits)


def _is_told_number(digits):
    if not 1 <= len(digits) <= _MOST_DIGITS or digits[0] == "0":
        return False
    return all([digit in "0123456789" for digit in digits])


def roll_of(octets):
    """The roll of a file of just its one frame, or None if the octets are no such file."""
    payloads, read = frames(octets)
    if len(payloads) != 1 or read < len(octets):
        return None
    try:
        return read_roll(payloads[0])
    except InvalidRecord:
        return None


def _ask_disk(disk):
    if not isinstance(disk, Disk):
        raise InvalidDisk(disk)


def numbers_on(disk, kind):
    """The numbers of all files of a kind, ascending."""
    told = [number_of(name) for name in disk.names()]
    return sorted([row[1] for row in told if row is not None and row[0] == kind])


def newest_roll(disk):
    """The number and the roll of the newest roll file that counts, or None."""
    _ask_disk(disk)
    for number in reversed(numbers_on(disk, "roll")):
        roll = roll_of(disk.read(file_name("roll", number)))
        if roll is not None:
            return number, roll
    return None


def next_number(disk, kind):
    """The number that the next file of a kind has."""
    _ask_disk(disk)
    _ask_kind(kind)
    return max(numbers_on(disk, kind), default=0) + 1
