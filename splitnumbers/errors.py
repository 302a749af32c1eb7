"""The errors of the package. What an error is made with stands in its attributes."""


class Trouble(Exception):
    """Any error of the package."""


class BadNumber(Trouble):
    """The argument called word is no number of the stated kind."""

    def __init__(self, word):
        self.word = word


class BadRatio(Trouble):
    """The argument called word is no ratio."""

    def __init__(self, word):
        self.word = word


class BadNumbers(Trouble):
    """A row of numbers has a wrong entry at place, -1 for the whole row."""

    def __init__(self, place):
        self.place = place


class BadSet(Trouble):
    """A set has a wrong entry at place, -1 for the whole set."""

    def __init__(self, place):
        self.place = place


class BadRows(Trouble):
    """Rows have a wrong row at place, -1 for the rows as a whole."""

    def __init__(self, place):
        self.place = place


class BadSigns(Trouble):
    """Signs have a wrong entry at place, -1 for the signs as a whole."""

    def __init__(self, place):
        self.place = place


class BadTolls(Trouble):
    """Tolls have a wrong entry at place, -1 for the tolls as a whole."""

    def __init__(self, place):
        self.place = place


class BadShares(Trouble):
    """Shares have a wrong entry at place, -1 for the shares as a whole."""

    def __init__(self, place):
        self.place = place


class BadRounding(Trouble):
    """A rounding has a wrong entry at place, -1 for the rounding as a whole."""

    def __init__(self, place):
        self.place = place


class BadMix(Trouble):
    """A mix has a wrong entry at place, -1 for the mix as a whole."""

    def __init__(self, place):
        self.place = place


class BadTable(Trouble):
    """Tables have a wrong one at place, -1 for the tables as a whole."""

    def __init__(self, place):
        self.place = place


class BadSpot(Trouble):
    """The row, column or place called word does not exist or is no integer."""

    def __init__(self, word):
        self.word = word


class BadStretch(Trouble):
    """Stretches have a wrong one at place, -1 for the stretches as a whole."""

    def __init__(self, place):
        self.place = place


class BadDeed(Trouble):
    """A deed is wrong in what word names."""

    def __init__(self, word):
        self.word = word


class OtherSize(Trouble):
    """Something has another length than the one that is due."""

    def __init__(self, due):
        self.due = due


class NotServing(Trouble):
    """The tolls do not serve the table: part is the first part that fails."""

    def __init__(self, part):
        self.part = part


class NotFirm(Trouble):
    """The table is not firm: part is the first part that fails at tolls 1, .., 1."""

    def __init__(self, part):
        self.part = part


class NotMet(Trouble):
    """What word names does not meet a condition."""

    def __init__(self, word):
        self.word = word


class NotFitting(Trouble):
    """What word names does not fit the other arguments."""

    def __init__(self, word):
        self.word = word


class NothingBack(Trouble):
    """There is nothing to take back."""


class TooMany(Trouble):
    """There are more than limit of what is counted."""

    def __init__(self, limit):
        self.limit = limit


class BadText(Trouble):
    """A text is wrong at a line, counted from 1, in what word names."""

    def __init__(self, line, word):
        self.line = line
        self.word = word
