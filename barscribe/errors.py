"""The errors of the package: each kind of failure has a class of its own."""


class RhythmError(ValueError):
    """What all errors of the package have in common."""


class BadMetre(RhythmError):
    """No tree of a metre, or metres that do not go together."""


class BadPoint(RhythmError):
    """A value that is no point of the bar."""

    def __init__(self, point):
        RhythmError.__init__(self, "no point of the bar")
        self.point = point


class BadNote(RhythmError):
    """A note that does not begin before its end."""


class BadBook(RhythmError):
    """The index of the first value that is no shape; 0 for what is no list or no book."""

    def __init__(self, index):
        RhythmError.__init__(self, "no shape, or no book")
        self.index = index


class BadState(RhythmError):
    """No state, no pair, or no possible move."""


class TooMany(RhythmError):
    """More than so many."""

    def __init__(self, most):
        RhythmError.__init__(self, "too many")
        self.most = most


class BadFamily(RhythmError):
    """No family of notes."""


class BadCount(RhythmError):
    """No number of a note of a family."""


class BadOnset(RhythmError):
    """The index of the first value that is no onset."""

    def __init__(self, index):
        RhythmError.__init__(self, "no onset")
        self.index = index


class BadSlip(RhythmError):
    """No slip."""


class BadDepth(RhythmError):
    """No depth."""


class BadNumber(RhythmError):
    """No number that can stand there."""


class BadRhythm(RhythmError):
    """The index of the first note that is not valid."""

    def __init__(self, index):
        RhythmError.__init__(self, "no note of a rhythm")
        self.index = index


class BadRow(RhythmError):
    """No row of metres."""


class BadLoop(RhythmError):
    """No loop."""


class BadFigure(RhythmError):
    """The index of the first border that is not valid."""

    def __init__(self, index):
        RhythmError.__init__(self, "no border of a figure")
        self.index = index


class BadGroups(RhythmError):
    """No grouping of the figure."""


class NoGrouping(RhythmError):
    """The obstacle that shows that there is no grouping."""

    def __init__(self, obstacle):
        RhythmError.__init__(self, "there is no grouping")
        self.obstacle = obstacle


class BadVoice(RhythmError):
    """The index of the first value that is no voice."""

    def __init__(self, index):
        RhythmError.__init__(self, "no voice")
        self.index = index


class BadTime(RhythmError):
    """No time."""


class BadWheel(RhythmError):
    """No wheel."""


class BadWord(RhythmError):
    """No word of a refutation."""


class BadName(RhythmError):
    """A value that is no name of a part."""

    def __init__(self, name):
        RhythmError.__init__(self, "no name of a part")
        self.name = name


class NoPart(RhythmError):
    """A name that no part has."""

    def __init__(self, name):
        RhythmError.__init__(self, "no part has this name")
        self.name = name


class Taken(RhythmError):
    """A name that a part has already."""

    def __init__(self, name):
        RhythmError.__init__(self, "a part has this name already")
        self.name = name


class BadMoment(RhythmError):
    """A value that is no moment there."""

    def __init__(self, moment):
        RhythmError.__init__(self, "no moment there")
        self.moment = moment


class BadSound(RhythmError):
    """No sound."""


class BadBar(RhythmError):
    """A value that is no index of a bar there."""

    def __init__(self, index):
        RhythmError.__init__(self, "no bar has this index")
        self.index = index


class NothingDone(RhythmError):
    """Nothing to take back, or to do again."""


class BadDeed(RhythmError):
    """The index of the first value that is no deed."""

    def __init__(self, index):
        RhythmError.__init__(self, "no deed")
        self.index = index


class BadJournal(RhythmError):
    """The index of the first item of a journal that is wrong."""

    def __init__(self, index):
        RhythmError.__init__(self, "a wrong item of a journal")
        self.index = index


class BadScore(RhythmError):
    """No score."""


class BadText(RhythmError):
    """The first line that is wrong."""

    def __init__(self, line):
        RhythmError.__init__(self, "a wrong line")
        self.line = line
