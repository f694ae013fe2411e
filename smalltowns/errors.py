"""The errors of the package, each with the values that it keeps."""

from smalltowns.values import as_tuples


class NoPlace(LookupError):
    """There is no step at this place."""

    def __init__(self, place):
        self.place = place


class NoTown(LookupError):
    """The County has no town of this size."""

    def __init__(self, size):
        self.size = size


class NoReport(LookupError):
    """The Board has no report of this NAME."""

    def __init__(self, name):
        self.name = name


class NoFrame(LookupError):
    """The report of this NAME has no frame."""

    def __init__(self, name):
        self.name = name


class NoName(LookupError):
    """The book of the Board has no county or town of this NAME."""

    def __init__(self, name):
        self.name = name


class NoNumber(LookupError):
    """There is no Script of this number."""

    def __init__(self, number):
        self.number = number


class NotBetween(LookupError):
    """The Script of this FORM does not stand between the two others."""

    def __init__(self, strange):
        self.strange = as_tuples(strange)


class BadText(ValueError):
    """Nothing has this text."""


class BadRun(ValueError):
    """A number of this pair is below 1."""

    def __init__(self, run):
        self.run = as_tuples(run)


class BadStep(ValueError):
    """There is no step of this kind with this least number."""

    def __init__(self, given):
        self.given = as_tuples(given)


class BadSize(ValueError):
    """The high of this pair (low, high) is less than its low."""

    def __init__(self, pair):
        self.pair = as_tuples(pair)


class Outside(ValueError):
    """The report of this NAME would not be within its frame."""

    def __init__(self, name):
        self.name = name


class BadLine(ValueError):
    """The line of this number is not written as it must be, or cannot stand there."""

    def __init__(self, number):
        self.number = number


class Stopped(ValueError):
    """The deed of this number was refused by the error of this class, which keeps this value."""

    def __init__(self, number, raised, value):
        self.number = number
        self.raised = raised
        self.value = as_tuples(value)


class Unfit(ValueError):
    """No Script fits what was told."""


class Known(ValueError):
    """The Script is known: there is nothing to ask."""


class NeverShown(ValueError):
    """The Script shows this of no county."""


class Unlike(ValueError):
    """There are not as many Scripts as Counties."""
