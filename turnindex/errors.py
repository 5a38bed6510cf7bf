"""The errors of the package: each keeps the wrong value as it was passed.

The messages do not show the value, since not every object can be written out.
"""


class TurnError(ValueError):
    """What all errors of the package have in common."""


class NoText(TurnError):
    """Something else was passed where a text is wanted."""

    def __init__(self, text):
        super().__init__("no text of letters a to z as it is wanted here")
        self.text = text


class NoRow(TurnError):
    """Something else was passed where a row is wanted."""

    def __init__(self, row):
        super().__init__("no row of letters and ends as it is wanted here")
        self.row = row


class NoNumber(TurnError):
    """Something else was passed where an integer of a told size is wanted."""

    def __init__(self, number):
        super().__init__("no integer of the size that is wanted here")
        self.number = number


class NoCounts(TurnError):
    """Something else was passed where counts of letters are wanted."""

    def __init__(self, counts):
        super().__init__("no counts of letters as they are wanted here")
        self.counts = counts


class NoOrder(TurnError):
    """Something else was passed where an order is wanted."""

    def __init__(self, order):
        super().__init__("no order: a tuple in which 0 to n - 1 stand once")
        self.order = order


class NoSampling(TurnError):
    """Something else was passed where a sampling is wanted."""

    def __init__(self, samples):
        super().__init__("no sampling: a sorted tuple of unlike places")
        self.samples = samples


class NoMarks(TurnError):
    """Something else was passed where the marks of a merging are wanted."""

    def __init__(self, marks):
        super().__init__("no marks that part the row in two")
        self.marks = marks


class NoShape(TurnError):
    """Something else was passed where a shape is wanted."""

    def __init__(self, shape):
        super().__init__("no shape of letters as it is wanted here")
        self.shape = shape


class Unordered(TurnError):
    """The letters of a shape do not stand in order."""

    def __init__(self, shape):
        super().__init__("the letters of the shape do not stand in order")
        self.shape = shape
