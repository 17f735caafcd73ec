"""Blocks: a layer, or the cells of a grain, in octets that never change; each has just one block [101 to 105]."""

from everygrain.asking import ask_series
from everygrain.errors import (
    InvalidBlock, InvalidCells, InvalidCount, InvalidLayers, InvalidText, Malformed, NoSeries, Short)
from everygrain.folds import is_row_fold
from everygrain.kinds import is_count, is_list, is_positive
from everygrain.layers import Layer
from everygrain.octets import Reader, frame, frames, number_octets, signed_octets, text_octets
from everygrain.packs import pack, pack_times, read_points, unpack_times
from everygrain.series import read_series

_LAYER = 0
_CELLS = 1


def is_cells(length, value):
    """Tell whether any value has the cells of a length."""
    if not is_positive(length):
        raise InvalidCount(length)
    if not isinstance(value, dict):
        return False
    return all([_is_series_text(text) and _is_row_of_cells(length, row) for text, row in value.items()])


def _is_series_text(value):
    try:
        return read_series(value).text() == value
    except InvalidText:
        return False


def _is_row_of_cells(length, value):
    if not is_list(value) or len(value) == 0 or not all([_is_cell(length, cell) for cell in value]):
        return False
    return all([cell[0] < following[0] for cell, following in zip(value, value[1:])])


def _is_cell(length, value):
    if not isinstance(value, tuple) or len(value) != 2:
        return False
    beginning, told = value
    if not is_count(beginning) or beginning % length != 0 or told is None or not is_row_fold(told):
        return False
    return beginning <= told[4][0] and told[5][0] < beginning + length


def layer_block(layer):
    """The octets of the block of a layer."""
    if not isinstance(layer, Layer):
        raise InvalidLayers(layer)
    return _block([_LAYER], [_layer_payload(layer, series) for series in layer.series()])


def cells_block(length, cells):
    """The octets of the block of the cells of a length."""
    if not is_cells(length, cells):
        raise InvalidCells(cells)
    payloads = [_cells_payload(text, cells[text]) for text in sorted(cells)]
    return _block([_CELLS] + number_octets(length), payloads)


def _block(kind, payloads):
    octets = []
    for payload in [kind] + payloads + [[]]:
        octets.extend(frame(payload))
    return octets


def _layer_payload(layer, series):
    stretches = layer.taken(series)
    octets = text_octets(series.text()) + pack(layer.points(series)) + number_octets(len(stretches))
    for low, high in stretches:
        octets.extend(number_octets(low) + number_octets(high - low))
    return octets


def _cells_payload(text, cells):
    octets = text_octets(text) + pack_times([beginning for beginning, told in cells])
    for beginning, told in cells:
        octets.extend(_fold_octets(beginning, told))
    return octets


def _fold_octets(beginning, told):
    """The octets of a fold in the cell with this beginning."""
    count, total, least, greatest, first, last = told
    octets = number_octets(count) + signed_octets(total) + signed_octets(least) + number_octets(greatest - least)
    octets.extend(number_octets(first[0] - beginning) + signed_octets(first[1]))
    octets.extend(number_octets(last[0] - first[0]) + signed_octets(last[1]))
    return octets


def _read_fold(reader, beginning):
    count = reader.number()
    total = reader.signed()
    least = reader.signed()
    greatest = least + reader.number()
    first = (beginning + reader.number(), reader.signed())
    last = (first[0] + reader.number(), reader.signed())
    return count, total, least, greatest, first, last


def _read_layer(payloads):
    """The layer that the payloads of series tell, if they are told in the one right way."""
    layer = Layer()
    for payload in payloads:
        reader = Reader(payload)
        series = read_series(reader.text())
        points = read_points(reader)
        layer.lay(series, dict(points), _read_stretches(reader))
    return layer


def _read_stretches(reader):
    stretches = []
    for _ in range(reader.number()):
        low = reader.number()
        length = reader.number()
        if length == 0:
            raise Malformed()
        stretches.append((low, low + length))
    return stretches


def _read_cells(payloads):
    """The cells that the payloads of series tell, if they are told in the one right way."""
    cells = {}
    for payload in payloads:
        reader = Reader(payload)
        text = reader.text()
        beginnings = unpack_times(reader)
        cells[text] = [(beginning, _read_fold(reader, beginning)) for beginning in beginnings]
    return cells


def _read_told(payloads):
    """What the payloads of a block tell, if they are told in the one right way."""
    reader = Reader(payloads[0])
    kind = reader.take(1)[0]
    if kind == _LAYER:
        return "layer", _read_layer(payloads[1:-1])
    length = reader.number()
    if kind != _CELLS or length == 0:
        raise Malformed()
    cells = _read_cells(payloads[1:-1])
    if not is_cells(length, cells):
        raise Malformed()
    return "cells", length, cells


def read_block(octets):
    """What a block tells: ("layer", layer) or ("cells", length, cells)."""
    payloads, _ = frames(octets)
    if len(payloads) == 0:
        raise InvalidBlock(octets)
    try:
        told = _read_told(payloads)
    except (Short, Malformed, InvalidText):
        raise InvalidBlock(octets) from None
    # Whatever was told in another way than the one right one comes back in other octets.
    if _block_of(told) != list(octets):
        raise InvalidBlock(octets)
    return told


def _block_of(told):
    if told[0] == "layer":
        return layer_block(told[1])
    return cells_block(told[1], told[2])


def directory(octets):
    """Tell where the payload of each series of a block stands: tuples (text, low, high)."""
    read_block(octets)
    rows = []
    at = 0
    for payload in frames(octets)[0]:
        low = at + len(number_octets(len(payload)))
        at = low + len(payload) + 2
        rows.append((low, low + len(payload)))
    return [(Reader(octets[low:high]).text(), low, high) for low, high in rows[1:-1]]


def read_part(octets, series):
    """What a block tells of one series alone: a layer, or the list of its cells."""
    told = read_block(octets)
    ask_series(series)
    if told[0] == "cells":
        return _part_of_cells(told[2], series)
    return _part_of_layer(told[1], series)


def _part_of_cells(cells, series):
    if series.text() not in cells:
        raise NoSeries(series)
    return cells[series.text()]


def _part_of_layer(layer, series):
    if series not in layer.series():
        raise NoSeries(series)
    part = Layer()
    part.lay(series, dict(layer.points(series)), layer.taken(series))
    return part
