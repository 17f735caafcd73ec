"""Disks: files of octets, of which only the synced ones are certain when the power goes [31 to 36]."""

from everygrain.errors import InvalidChoice, InvalidCount, InvalidName, InvalidOctets, NoFile, PowerCut
from everygrain.kinds import is_count, is_file_name
from everygrain.octets import is_octets


class Disk:
    """A disk, at first without files and without a limit of its steps."""

    def __init__(self):
        self._files = {}
        self._certain = {}
        self._steps = None
        self._dead = False

    def __eq__(self, other):
        return isinstance(other, Disk) and self._files == other._files and self._certain == other._certain

    def append(self, name, octets):
        """Append octets to the end of a file, which is made if it is not there."""
        self._ask_power()
        if not is_file_name(name):
            raise InvalidName(name)
        if not is_octets(octets):
            raise InvalidOctets(octets)
        granted = self._granted(max(1, len(octets)))
        if name not in self._files:
            self._files[name] = []
            self._certain[name] = 0
        self._files[name].extend(octets[:granted])
        if granted < len(octets):
            self._dead = True
            raise PowerCut()

    def sync(self, name):
        """Make all octets of a file certain."""
        self._ask_power()
        self._ask_file(name)
        self._granted(1)
        self._certain[name] = len(self._files[name])

    def drop(self, name):
        """Take a file away."""
        self._ask_power()
        self._ask_file(name)
        self._granted(1)
        self._files.pop(name)
        self._certain.pop(name)

    def read(self, name):
        """All octets of a file, synced or not."""
        self._ask_file(name)
        return list(self._files[name])

    def synced(self, name):
        """The number of the synced octets of a file."""
        self._ask_file(name)
        return self._certain[name]

    def names(self):
        """The names of all files, ascending."""
        return sorted(self._files)

    def limit(self, count):
        """Let the disk do so many steps from now on, or any number of them for None."""
        self._ask_power()
        if count is not None and not is_count(count):
            raise InvalidCount(count)
        self._steps = count

    def left(self):
        """The number of the steps that are left, or None without a limit."""
        return self._steps

    def remains(self, choice):
        """A new disk with what remains if the power goes now, and of the unsynced octets what is chosen."""
        if not self._is_choice(choice):
            raise InvalidChoice(choice)
        rest = Disk()
        for name in self.names():
            end = self._certain[name] + choice.get(name, 0)
            rest._files[name] = self._files[name][:end]
            rest._certain[name] = len(rest._files[name])
        return rest

    def copied(self):
        """A new disk with the same files, without a limit and not dead."""
        other = Disk()
        for name in self.names():
            other._files[name] = list(self._files[name])
            other._certain[name] = self._certain[name]
        return other

    def _is_choice(self, choice):
        if not isinstance(choice, dict):
            return False
        return all([name in self._files and is_count(count) for name, count in choice.items()])

    def _ask_file(self, name):
        if not is_file_name(name):
            raise InvalidName(name)
        if name not in self._files:
            raise NoFile(name)

    def _ask_power(self):
        if self._dead:
            raise PowerCut()

    def _granted(self, wanted):
        """Take as many of the wanted steps as are left; if there is none, the power goes."""
        if self._steps is None:
            return wanted
        if self._steps == 0:
            self._dead = True
            raise PowerCut()
        granted = min(wanted, self._steps)
        self._steps = self._steps - granted
        return granted
