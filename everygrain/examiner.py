"""The examiner: the faults of a disk, and what its files mean; it changes nothing [171 to 173]."""

from everygrain.contents import Contents
from everygrain.errors import Broken
from everygrain.layers import all_laid, series_of
from everygrain.rolls import file_name, newest_roll, numbers_on, roll_of


def examine(disk):
    """The faults of a disk, in order."""
    newest = newest_roll(disk)
    rolls = _wrong_rolls(disk)
    faults = [("roll", name) for name in rolls]
    if newest is None:
        strays = [name for name in disk.names() if name not in rolls]
        return faults + [("none",)] + _strays(strays)
    contents = Contents(disk, newest[0], newest[1])
    known = rolls + [contents.name] + contents.files
    return faults + _faults_of(contents) + _strays([name for name in disk.names() if name not in known])


def meaning(disk):
    """What the files of a disk mean: deeds done, clock, views, points and cells; None if no roll file counts."""
    newest = newest_roll(disk)
    if newest is None:
        return None
    contents = Contents(disk, newest[0], newest[1])
    broken = contents.broken()
    if broken is not None:
        raise Broken(broken)
    state = contents.state
    return state.done(), state.clock(), state.views(), _points_of(state.layers + [state.memory]), state.cells


def _wrong_rolls(disk):
    """The names of the roll files that do not count, ascending by number."""
    names = [file_name("roll", number) for number in numbers_on(disk, "roll")]
    return [name for name in names if roll_of(disk.read(name)) is None]


def _strays(names):
    return [("stray", name) for name in names]


def _faults_of(contents):
    """The faults of the newest roll and of the files that it names, in order."""
    faults = []
    if contents.wrong_views:
        faults.append(("views", contents.name))
    faults.extend([("lacks", name) for name in contents.lacking])
    faults.extend([("block", name) for name in contents.wrong_blocks])
    if contents.wrong_record is not None:
        faults.append(contents.wrong_record)
    if contents.cut is not None:
        faults.append(("log", contents.cut))
    return faults


def _points_of(layers):
    """The points that are laid, by the texts of the series that have some."""
    points = {}
    for series in series_of(layers):
        row = all_laid(layers, series)
        if len(row) > 0:
            points[series.text()] = row
    return points
