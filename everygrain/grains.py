"""Rules: how long each grain is kept, and so which windows are told at each clock, and by which grains [71 to 75]."""

from everygrain.asking import ask_time
from everygrain.errors import Gone, InvalidRules, InvalidWindow, NoGrain
from everygrain.kinds import is_count, is_list, is_positive

_MOST_GRAINS = 4


def _are_rules(rows):
    if not is_list(rows) or not 1 <= len(rows) <= _MOST_GRAINS:
        return False
    if not all([_is_row(row) for row in rows]):
        return False
    return rows[0][0] == 1 and all([_may_follow(row, ahead) for ahead, row in zip(rows, rows[1:])])


def _is_row(row):
    if not isinstance(row, tuple) or len(row) != 2:
        return False
    return is_positive(row[0]) and (row[1] is None or is_positive(row[1]))


def _may_follow(row, ahead):
    """Tell whether a grain of one row may be the next one behind the grain of the row ahead."""
    if ahead[1] is None or row[0] % ahead[0] != 0 or row[0] < 2 * ahead[0]:
        return False
    return row[1] is None or row[1] >= ahead[1] + row[0]


def _ask_window(low, step):
    if not is_count(low) or not is_positive(step):
        raise InvalidWindow((low, step))


class Rules:
    """The lengths and the keeps of one to four grains; no call changes them."""

    def __init__(self, rows):
        if not _are_rules(rows):
            raise InvalidRules(rows)
        self.rows = tuple(rows)

    def __eq__(self, other):
        return isinstance(other, Rules) and self.rows == other.rows

    def __len__(self):
        return len(self.rows)

    def length(self, grain):
        """The length of a grain."""
        self._ask_grain(grain)
        return self.rows[grain][0]

    def keep(self, grain):
        """How long a grain is kept, or None if for ever."""
        self._ask_grain(grain)
        return self.rows[grain][1]

    def step(self, grain):
        """The length of the next grain, or of the last grain its own length: its edge goes on by so much."""
        self._ask_grain(grain)
        return self.rows[min(grain + 1, len(self.rows) - 1)][0]

    def edge(self, grain, clock):
        """The least time that stands at a grain."""
        self._ask_grain(grain)
        ask_time(clock)
        keep = self.keep(grain)
        if keep is None or keep > clock:
            return 0
        step = self.step(grain)
        return (clock - keep) // step * step

    def stands(self, grain, time, clock):
        """Tell whether a time stands at a grain."""
        self._ask_grain(grain)
        ask_time(time)
        return time >= self.edge(grain, clock)

    def gone_from(self, grain, time):
        """The least clock at which a grain is gone at a time, or None if there is none."""
        self._ask_grain(grain)
        ask_time(time)
        keep = self.keep(grain)
        if keep is None:
            return None
        step = self.step(grain)
        return keep + (time // step + 1) * step

    def cell(self, grain, time):
        """The beginning of the cell of a grain in which a time lies."""
        self._ask_grain(grain)
        ask_time(time)
        length = self.length(grain)
        return time // length * length

    def teller(self, low, step, clock):
        """The shortest grain that fits a window and at which its low stands."""
        _ask_window(low, step)
        ask_time(clock)
        longest = self._longest(low, step)
        # Each length divides the longer ones, so all grains up to the longest one fit.
        for grain in range(longest + 1):
            if self.stands(grain, low, clock):
                return grain
        raise Gone(low, longest)

    def untold_from(self, low, step):
        """The least clock at which a window is not told, or None if there is none."""
        _ask_window(low, step)
        return self.gone_from(self._longest(low, step), low)

    def pieces(self, low, step, clock):
        """The tuples (grain, from, to) that tile a window, each with the shortest grain at which its times stand."""
        teller = self.teller(low, step, clock)
        pieces = []
        end = low + step
        for grain in range(teller + 1):
            start = max(low, self.edge(grain, clock))
            if start < end:
                pieces.append((grain, start, end))
                end = start
        return pieces[::-1]

    def _ask_grain(self, grain):
        if not is_count(grain) or grain >= len(self.rows):
            raise NoGrain(grain)

    def _longest(self, low, step):
        """The longest grain that fits a window."""
        return max([grain for grain, row in enumerate(self.rows) if low % row[0] == 0 and step % row[0] == 0])
