"""The errors of the package."""


class DrillError(ValueError):
    """What every error of the package is."""


class BadRow(DrillError):
    """A row has a character that is not a colour; value is the index of the first one."""

    def __init__(self, value):
        self.value = value


class BadCall(DrillError):
    """A drill has an invalid call; value is the index of the first one."""

    def __init__(self, value):
        self.value = value


class BadCounts(DrillError):
    """Counts are not six (value is None), or one is negative (value is its index)."""

    def __init__(self, value):
        self.value = value


class BadColour(DrillError):
    """A string is not a colour; value is the string."""

    def __init__(self, value):
        self.value = value


class BadTimes(DrillError):
    """A number of repetitions is negative; value is the number."""

    def __init__(self, value):
        self.value = value


class BadGoal(DrillError):
    """No calls of two colours lead from a row to its goal; value is None."""

    def __init__(self, value):
        self.value = value


class BadIndex(DrillError):
    """There is no such person (value is the index) or no such step (value is None)."""

    def __init__(self, value):
        self.value = value


class BadText(DrillError):
    """Nothing has this text; value is the text."""

    def __init__(self, value):
        self.value = value
