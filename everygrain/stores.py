"""Stores: deeds done to a disk, so that whoever opens it again finds what they mean [121 to 136, 162 to 166]."""

from everygrain.answers import ask
from everygrain.blocks import cells_block, layer_block
from everygrain.contents import Contents
from everygrain.errors import Broken, InvalidRules, InvalidTruth, OtherRules
from everygrain.expiry import expired
from everygrain.freshness import untouched
from everygrain.grains import Rules
from everygrain.layers import Layer, merged
from everygrain.logs import deed_record
from everygrain.octets import frame
from everygrain.rolls import Roll, file_name, newest_roll
from everygrain.snapshots import Snapshot
from everygrain.states import State
from everygrain.writing import drop_others, write_file, write_roll


class Store:
    """A store on a disk, which it changes; it is made there, or opened if there is one."""

    def __init__(self, disk, rules=None):
        newest = newest_roll(disk)
        self._disk = disk
        # By the names of the views that were read, the beginnings of the windows that are fresh.
        self._fresh = {}
        if newest is None:
            self._make(rules)
        else:
            self._find(newest[0], newest[1], rules)
        self._synced = self._state.done()

    def do(self, deed):
        """Do a deed, also one of views."""
        deed = self._state.judged(deed)
        self._disk.append(self._log_name(), frame(deed_record(deed)))
        self._state.do(deed)
        self._touch(deed)

    def sync(self):
        """Make all deeds certain."""
        self._disk.sync(self._log_name())
        self._synced = self._state.done()

    def done(self):
        """The number of the deeds done since the store was made."""
        return self._state.done()

    def synced(self):
        """The number of the deeds that are certain."""
        return self._synced

    def clock(self):
        """The clock."""
        return self._state.clock()

    def rules(self):
        """The rules."""
        return self._state.rules()

    def points(self, series, low, high):
        """The points of a series from low on and ahead of high."""
        return self._state.points(series, low, high)

    def folds(self, series, low, high, step):
        """The folds of the windows of one length from low on and ahead of high."""
        return self._state.folds(series, low, high, step)

    def series(self):
        """The series that have a point that stands at the last grain, in order."""
        return self._state.series()

    def seal(self):
        """Lay the deeds of the log into a block, and begin a new log; tell whether there was any deed."""
        if self._state.done() == self._roll.done:
            return False
        self._turn()
        return True

    def merge(self, last=False):
        """Seal, and make one layer of all layers, or of the two newest ones; tell whether there were two."""
        if not isinstance(last, bool):
            raise InvalidTruth(last)
        self.seal()
        state = self._state
        layers = state.layers
        if len(layers) < 2:
            return False
        first = 0
        if last:
            first = len(layers) - 2
        layer = layers[first]
        for newer in layers[first + 1:]:
            # Nothing lies beneath the eldest layer.
            layer = merged(layer, newer, first == 0)
        numbers = list(self._roll.layers[:first])
        layers = layers[:first]
        if not layer.is_empty():
            numbers.append(self._write_block(layer_block(layer)))
            layers.append(layer)
        self._write_roll(self._roll.log, numbers, self._roll.cells)
        state.layers = layers
        return True

    def expire(self):
        """Seal, and let what is below its edge go on to the next grain; tell whether there was any."""
        self.seal()
        state = self._state
        layers, cells = expired(state.rules(), state.clock(), state.layers, state.cells)
        if layers == state.layers and cells == state.cells:
            return False
        numbers = self._write_layers(layers)
        self._write_roll(self._roll.log, numbers, self._write_cells(cells))
        state.layers = [layer for layer, number in zip(layers, numbers) if number is not None]
        state.cells = cells
        return True

    def blocks(self):
        """The names of the files that the roll names, but for the log."""
        return self._roll.files()[1:]

    def weight(self):
        """The number of all octets on the disk."""
        return sum([len(self._disk.read(name)) for name in self._disk.names()])

    def ask(self, query):
        """The rows of a query."""
        return ask(self._state, query)

    def views(self):
        """The names and the texts of the views, ascending by name."""
        return self._state.views()

    def read_view(self, name, low, high):
        """The rows of the view of this name, from low to high, whose windows are fresh then."""
        rows = self._state.read_view(name, low, high)
        self._fresh[name] = list(range(low, high, self._state.view(name).step()))
        return rows

    def fresh(self, name):
        """The beginnings of the windows of a view that no deed touched since they were read."""
        self._state.view(name)
        return list(self._fresh.get(name, []))

    def snapshot(self):
        """What the store answers as it is now."""
        return Snapshot(self._state.copied())

    def _make(self, rules):
        if not isinstance(rules, Rules):
            raise InvalidRules(rules)
        self._state = State(rules, 0, 0)
        drop_others(self._disk, [])
        self._write_roll(write_file(self._disk, "log", []), [], [None for _ in rules.rows[1:]])

    def _find(self, number, roll, rules):
        """Open the store of the newest roll."""
        if rules is not None and not isinstance(rules, Rules):
            raise InvalidRules(rules)
        if rules is not None and rules != roll.rules:
            raise OtherRules(rules)
        contents = Contents(self._disk, number, roll)
        broken = contents.broken()
        if broken is not None:
            raise Broken(broken)
        self._state = contents.state
        self._roll = roll
        names = [contents.name] + contents.files
        for name in names:
            self._disk.sync(name)
        drop_others(self._disk, names)
        if contents.cut is not None:
            self._turn()

    def _turn(self):
        """Lay the memory layer into a block, and begin a new log."""
        state = self._state
        numbers = list(self._roll.layers)
        layers = list(state.layers)
        if not state.memory.is_empty():
            numbers.append(self._write_block(layer_block(state.memory)))
            layers.append(state.memory)
        self._write_roll(write_file(self._disk, "log", []), numbers, self._roll.cells)
        state.layers = layers
        state.memory = Layer()
        self._synced = state.done()

    def _log_name(self):
        return file_name("log", self._roll.log)

    def _write_block(self, octets):
        return write_file(self._disk, "block", octets)

    def _write_roll(self, log, layers, cells):
        """Write a roll with this log and the blocks of these numbers; the numbers of layers may have a None."""
        state = self._state
        layers = [number for number in layers if number is not None]
        self._roll = Roll(state.done(), state.clock(), state.rules(), log, layers, cells, state.views())
        write_roll(self._disk, self._roll)

    def _write_layers(self, layers):
        """Write the blocks of layers that come in the place of the old ones; the numbers, None for an empty one."""
        numbers = list(self._roll.layers)
        for at, layer in enumerate(layers):
            if layer != self._state.layers[at]:
                numbers[at] = None
                if not layer.is_empty():
                    numbers[at] = self._write_block(layer_block(layer))
        return numbers

    def _write_cells(self, cells):
        """Write the blocks of cells that come in the place of the old ones; the numbers, None for no cells."""
        numbers = list(self._roll.cells)
        for at, told in enumerate(cells):
            if told != self._state.cells[at]:
                numbers[at] = None
                if len(told) > 0:
                    numbers[at] = self._write_block(cells_block(self.rules().length(at + 1), told))
        return numbers

    def _touch(self, deed):
        """Let the windows be fresh no longer that a deed touches."""
        if deed[0] in ("view", "unview"):
            self._fresh.pop(deed[1], None)
            return
        for name in list(self._fresh):
            self._fresh[name] = untouched(self._state.view(name), self._fresh[name], deed, self.rules())
