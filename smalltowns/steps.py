"""Steps: one rule that leaves out what is too small."""

from smalltowns.counties import County
from smalltowns.errors import BadStep, BadText
from smalltowns.values import digits_of, number_in

KINDS = ("town", "county")


class Step:
    """Leaves out the towns below a least size, or a county below a least number of rows."""

    def __init__(self, kind, least):
        if kind not in KINDS or least < 1:
            raise BadStep((kind, least))
        self._kind = kind
        self._least = least

    @staticmethod
    def of(text):
        """The Step with this text."""
        kind, _, word = text.partition(" ")
        least = number_in(word)
        if kind not in KINDS or least is None or least < 1:
            raise BadText()
        return Step(kind, least)

    @property
    def kind(self):
        """What is left out if it is too small: "town" or "county"."""
        return self._kind

    @property
    def least(self):
        """The least number of rows that is not too small."""
        return self._least

    @property
    def text(self):
        """The kind and the least, with a blank between."""
        return f"{self._kind} {digits_of(self._least)}"

    def __call__(self, county):
        """The County that this step leaves of this one."""
        if self._kind == "town":
            return county.only(self._least)
        if county.rows < self._least:
            return County()
        return county

    def __eq__(self, other):
        return isinstance(other, Step) and self._kind == other._kind and self._least == other._least
