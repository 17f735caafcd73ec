"""Contents: what the files that a roll names mean, and what is wrong with them [126, 171]."""

from everygrain.blocks import read_block
from everygrain.errors import (
    ClockBack, Gone, InvalidBlock, InvalidDeed, InvalidQuery, InvalidRecord, NoView, TooManyViews)
from everygrain.logs import read_deed
from everygrain.octets import frames
from everygrain.rolls import file_name
from everygrain.states import State
from everygrain.views import View


class Contents:
    """What the newest roll of a disk means, as far as its files are there and as told, and what is wrong with them.

    Wrong are the views of the roll; files that are lacking; blocks that are not as told; a record of the log, told by
    a word and the number of the whole frames ahead of it. Cut is the place of the log behind its whole frames, or None
    if nothing stands there.
    """

    def __init__(self, disk, number, roll):
        self.name = file_name("roll", number)
        self.files = roll.files()
        self.state = State(roll.rules, roll.clock, roll.done)
        self.wrong_views = not all([_is_plainest(text) for _, text in roll.views])
        self.lacking = [name for name in self.files if name not in disk.names()]
        self.wrong_blocks = []
        self.wrong_record = None
        self.cut = None
        if not self.wrong_views:
            for name, text in roll.views:
                self.state.show(name, text)
        self._read_blocks(disk, roll)
        if self.files[0] not in self.lacking:
            self._read_log(disk.read(self.files[0]))

    def broken(self):
        """The name of the first file that is not there or not as told, or None."""
        if self.wrong_views:
            return self.name
        wrong = self.lacking + self.wrong_blocks
        if self.wrong_record is not None:
            wrong.append(self.files[0])
        for name in self.files:
            if name in wrong:
                return name
        return None

    def _read_blocks(self, disk, roll):
        for number in roll.layers:
            told = self._block(disk, file_name("block", number), ("layer",))
            if told is not None:
                self.state.layers.append(told[1])
        for grain in range(1, len(roll.rules)):
            number = roll.cells[grain - 1]
            if number is None:
                continue
            told = self._block(disk, file_name("block", number), ("cells", roll.rules.length(grain)))
            if told is not None:
                self.state.cells[grain - 1] = told[2]

    def _block(self, disk, name, beginning):
        """What a block tells, or None if it is not there, or if what it tells does not begin so."""
        if name in self.lacking:
            return None
        try:
            told = read_block(disk.read(name))
        except InvalidBlock:
            told = ()
        if told[:len(beginning)] == beginning:
            return told
        self.wrong_blocks.append(name)
        return None

    def _read_log(self, octets):
        """Do the deeds of the log, up to the first one that is wrong."""
        payloads, read = frames(octets)
        if read < len(octets):
            self.cut = read
        for at, payload in enumerate(payloads):
            word = self._fault_of(payload)
            if word is not None:
                self.wrong_record = (word, at)
                return

    def _fault_of(self, payload):
        """Do the deed of a record; the word of what is wrong with it, or None."""
        try:
            self.state.do(self.state.judged(read_deed(payload)))
        except InvalidRecord:
            return "record"
        except (InvalidDeed, Gone, ClockBack, NoView, TooManyViews):
            return "refused"
        return None


def _is_plainest(text):
    """Tell whether a text is the plainest one of a view."""
    try:
        return View(text).text() == text
    except InvalidQuery:
        return False
