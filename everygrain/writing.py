"""Writing: how new files come to the disk of a store, and how those that it needs no longer go [124]."""

from everygrain.octets import frame
from everygrain.rolls import file_name, next_number


def write_file(disk, kind, octets):
    """Write a new file of a kind, and sync it; its number."""
    number = next_number(disk, kind)
    name = file_name(kind, number)
    disk.append(name, octets)
    disk.sync(name)
    return number


def write_roll(disk, roll):
    """Write a roll into a new file, and drop all files but this one and those that it names."""
    number = write_file(disk, "roll", frame(roll.record()))
    drop_others(disk, [file_name("roll", number)] + roll.files())


def drop_others(disk, names):
    """Drop all files but those of these names."""
    for name in disk.names():
        if name not in names:
            disk.drop(name)
