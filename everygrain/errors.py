"""All errors of the package [6]: each one is a direct subclass of GrainError.

An error whose name begins with Invalid has what was handed in as its `given`.
"""


class GrainError(Exception):
    """Any error of this package."""


class InvalidCount(GrainError):
    """What should be a count is none."""

    def __init__(self, given):
        self.given = given


class InvalidValue(GrainError):
    """What should be an integer is none."""

    def __init__(self, given):
        self.given = given


class InvalidText(GrainError):
    """What should be a text of some form is none."""

    def __init__(self, given):
        self.given = given


class InvalidOctets(GrainError):
    """What should be a list of octets is none."""

    def __init__(self, given):
        self.given = given


class InvalidName(GrainError):
    """What should be a name, or the name of a file, is none."""

    def __init__(self, given):
        self.given = given


class InvalidChoice(GrainError):
    """What should tell how much of each file remains does not."""

    def __init__(self, given):
        self.given = given


class InvalidTags(GrainError):
    """What should be the tags of a series are none."""

    def __init__(self, given):
        self.given = given


class InvalidSeries(GrainError):
    """What should be a series is none."""

    def __init__(self, given):
        self.given = given


class InvalidSeriesList(GrainError):
    """What should be a list of series is none."""

    def __init__(self, given):
        self.given = given


class InvalidPoints(GrainError):
    """What should be a row of points is none."""

    def __init__(self, given):
        self.given = given


class InvalidRows(GrainError):
    """What should be a list of rows of points is none."""

    def __init__(self, given):
        self.given = given


class InvalidFold(GrainError):
    """What should be a fold is none."""

    def __init__(self, given):
        self.given = given


class InvalidFraction(GrainError):
    """What should be a fraction, or make one, does not."""

    def __init__(self, given):
        self.given = given


class InvalidTimes(GrainError):
    """What should be a row of times is none."""

    def __init__(self, given):
        self.given = given


class InvalidValues(GrainError):
    """What should be a row of values is none."""

    def __init__(self, given):
        self.given = given


class InvalidWay(GrainError):
    """What should be a way of telling values is none."""

    def __init__(self, given):
        self.given = given


class InvalidRules(GrainError):
    """What should be rules are none."""

    def __init__(self, given):
        self.given = given


class InvalidWindow(GrainError):
    """What should be a window or a stretch is none."""

    def __init__(self, given):
        self.given = given


class InvalidWindows(GrainError):
    """What should be windows of one length in a row are none."""

    def __init__(self, given):
        self.given = given


class InvalidDeed(GrainError):
    """What should be a deed is none."""

    def __init__(self, given):
        self.given = given


class InvalidTime(GrainError):
    """What should be a time is none."""

    def __init__(self, given):
        self.given = given


class InvalidLayers(GrainError):
    """What should be a layer or a list of layers is none."""

    def __init__(self, given):
        self.given = given


class InvalidCells(GrainError):
    """What should be cells are none."""

    def __init__(self, given):
        self.given = given


class InvalidBlock(GrainError):
    """What should be the octets of a block are none."""

    def __init__(self, given):
        self.given = given


class InvalidRecord(GrainError):
    """What should be a record is none."""

    def __init__(self, given):
        self.given = given


class InvalidRoll(GrainError):
    """What should be the parts of a roll are none."""

    def __init__(self, given):
        self.given = given


class InvalidDisk(GrainError):
    """What should be a disk is none."""

    def __init__(self, given):
        self.given = given


class InvalidTruth(GrainError):
    """What should be True or False is neither."""

    def __init__(self, given):
        self.given = given


class InvalidSelection(GrainError):
    """What should be a selection is none."""

    def __init__(self, given):
        self.given = given


class InvalidWord(GrainError):
    """What should be a word is none."""

    def __init__(self, given):
        self.given = given


class InvalidQuery(GrainError):
    """What should be a query is none."""

    def __init__(self, given):
        self.given = given


class InvalidSnapshot(GrainError):
    """What should be a snapshot, or one with the same rules, is none."""

    def __init__(self, given):
        self.given = given


class InvalidLine(GrainError):
    """What should be a line for a desk is none."""

    def __init__(self, given):
        self.given = given


class InvalidLines(GrainError):
    """What should be a list of lines is none."""

    def __init__(self, given):
        self.given = given


class InvalidKind(GrainError):
    """What should be the kind of a file is none."""

    def __init__(self, given):
        self.given = given


class Short(GrainError):
    """The octets end too early."""


class Malformed(GrainError):
    """The octets tell nothing in the one way that is right."""


class NoFile(GrainError):
    """A disk has no file of this name."""

    def __init__(self, name):
        self.name = name


class PowerCut(GrainError):
    """The power of a disk went."""


class Crossing(GrainError):
    """A fold that should be later begins at this time, which is too early."""

    def __init__(self, time):
        self.time = time


class NoGrain(GrainError):
    """The rules have no such grain."""

    def __init__(self, grain):
        self.grain = grain


class Gone(GrainError):
    """At this time, this grain is gone."""

    def __init__(self, time, grain):
        self.time = time
        self.grain = grain


class ClockBack(GrainError):
    """The clock should go back to this time."""

    def __init__(self, now):
        self.now = now


class NoSeries(GrainError):
    """A block has nothing of this series."""

    def __init__(self, series):
        self.series = series


class OtherRules(GrainError):
    """A store has other rules than these."""

    def __init__(self, rules):
        self.rules = rules


class Broken(GrainError):
    """The file of this name is not there, or not as told."""

    def __init__(self, name):
        self.name = name


class NoView(GrainError):
    """A store has no view of this name."""

    def __init__(self, name):
        self.name = name


class TooManyViews(GrainError):
    """A store has so many views, and can have no more."""

    def __init__(self, count):
        self.count = count


class TooMany(GrainError):
    """So many points are too many to be told."""

    def __init__(self, count):
        self.count = count
