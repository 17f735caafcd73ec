"""Expiry: what is old goes on to the next grain, and from the last one it is left out [132]."""

from everygrain.folds import fold, joined
from everygrain.layers import above, all_laid, series_of


def expired(rules, clock, layers, cells):
    """The layers and the cells behind expiry at a clock, as two lists; what is not below its edge stays as it is."""
    first_edge = rules.edge(0, clock)
    moving = _folded_points(layers, first_edge)
    stay = []
    for grain in range(1, len(rules)):
        mine = _put_in(moving, cells[grain - 1], rules.length(grain))
        edge = rules.edge(grain, clock)
        moving = _below(mine, edge)
        stay.append(_from(mine, edge))
    return [above(layer, first_edge) for layer in layers], stay


def _folded_points(layers, edge):
    """The points below an edge, each one as the fold of itself: a dict from texts to lists of (time, fold)."""
    moving = {}
    for series in series_of(layers):
        points = [point for point in all_laid(layers, series) if point[0] < edge]
        moving[series.text()] = [(time, fold([(time, value)])) for time, value in points]
    return moving


def _put_in(moving, cells, length):
    """Cells of a length, those that were there and those that are folded of what moves."""
    mine = {text: list(row) for text, row in cells.items()}
    for text, row in moving.items():
        mine[text] = sorted(mine.get(text, []) + _folded(row, length))
    return mine


def _folded(row, length):
    """The cells of a length that are folded of an ascending row of tuples (time, fold)."""
    cells = {}
    for time, told in row:
        beginning = time // length * length
        cells[beginning] = joined(cells.get(beginning), told)
    return list(cells.items())


def _below(cells, edge):
    return _with_some({text: [cell for cell in row if cell[0] < edge] for text, row in cells.items()})


def _from(cells, edge):
    return _with_some({text: [cell for cell in row if cell[0] >= edge] for text, row in cells.items()})


def _with_some(cells):
    """Cells without the series that have none."""
    return {text: row for text, row in cells.items() if len(row) > 0}
