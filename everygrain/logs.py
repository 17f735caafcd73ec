"""Logs: the records of deeds, one frame each [111, 115]."""

from everygrain.deeds import is_deed, is_view_deed
from everygrain.errors import InvalidDeed, InvalidRecord, InvalidText, Malformed, Short
from everygrain.octets import Reader, frames, number_octets, signed_octets, text_octets
from everygrain.series import read_series

_WORDS = ("put", "take", "clock", "view", "unview")


def _is_any_deed(value):
    return is_deed(value) or is_view_deed(value)


def deed_record(deed):
    """The octets of the record of a deed, also of one of views."""
    if not _is_any_deed(deed):
        raise InvalidDeed(deed)
    octets = [_WORDS.index(deed[0])]
    if deed[0] == "put":
        return octets + text_octets(deed[1].text()) + number_octets(deed[2]) + signed_octets(deed[3])
    if deed[0] == "take":
        return octets + text_octets(deed[1].text()) + number_octets(deed[2]) + number_octets(deed[3] - deed[2])
    if deed[0] == "clock":
        return octets + number_octets(deed[1])
    for text in deed[1:]:
        octets.extend(text_octets(text))
    return octets


def _read_put(reader):
    return "put", read_series(reader.text()), reader.number(), reader.signed()


def _read_take(reader):
    series = read_series(reader.text())
    low = reader.number()
    return "take", series, low, low + reader.number()


def _read_clock(reader):
    return "clock", reader.number()


def _read_view(reader):
    return "view", reader.text(), reader.text()


def _read_unview(reader):
    return "unview", reader.text()


# In the order of the words.
_READERS = (_read_put, _read_take, _read_clock, _read_view, _read_unview)


def _read_any(reader):
    """The deed that a record tells, if it is told in the one right way."""
    word = reader.take(1)[0]
    if word >= len(_READERS):
        raise Malformed()
    read = _READERS[word]
    deed = read(reader)
    if not _is_any_deed(deed):
        raise Malformed()
    return deed


def read_deed(record):
    """The deed of which these octets are the record."""
    reader = Reader(record)
    try:
        deed = _read_any(reader)
    except (Short, Malformed, InvalidText):
        raise InvalidRecord(record) from None
    if deed_record(deed) != list(record):
        raise InvalidRecord(record)
    return deed


def deeds_of(octets):
    """The deeds of the whole frames at the beginning of a log, and whether octets are left behind these."""
    payloads, read = frames(octets)
    return [read_deed(payload) for payload in payloads], read < len(octets)
