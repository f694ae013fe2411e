"""Counties: bags of towns, told by how many there are of each size."""

from smalltowns.errors import BadRun, BadText
from smalltowns.values import digits_of, is_pair, number_in


class County:
    """A bag of towns, each of which is a number of rows from 1."""

    def __init__(self, runs=()):
        for size, many in runs:
            if size < 1 or many < 1:
                raise BadRun((size, many))
        self._runs = gathered(runs)

    @staticmethod
    def of(text):
        """The County with this text."""
        if text == "-":
            return County()
        runs = tuple([run_in(word) for word in text.split(" ")])
        if not is_runs(runs):
            raise BadText()
        return County(runs)

    @property
    def runs(self):
        """The RUNS: the pairs (size, many), ascending."""
        return self._runs

    @property
    def text(self):
        """The sizes, ascending, with how many there are behind those of several towns."""
        if not self._runs:
            return "-"
        return " ".join([run_text(size, many) for size, many in self._runs])

    @property
    def rows(self):
        """How many rows all towns have together."""
        return sum([size * many for size, many in self._runs])

    @property
    def towns(self):
        """How many towns there are."""
        return sum([many for size, many in self._runs])

    def __len__(self):
        return len(self._runs)

    def __getitem__(self, at):
        return sum([many for size, many in self._runs if size == at])

    def __contains__(self, x):
        return self[x] > 0

    def __iter__(self):
        raise TypeError("a County can not be gone through: take its runs")

    def rows_from(self, least):
        """How many rows the towns of at least this size have together."""
        return sum([size * many for size, many in self._runs if size >= least])

    def towns_from(self, least):
        """How many towns of at least this size there are."""
        return sum([many for size, many in self._runs if size >= least])

    def only(self, least):
        """The County of the towns of at least this size."""
        return County([(size, many) for size, many in self._runs if size >= least])

    def __add__(self, other):
        if not isinstance(other, County):
            return NotImplemented
        return County(self._runs + other.runs)

    def within(self, b):
        """Whether b has at least as many towns of each size."""
        return all([many <= b[size] for size, many in self._runs])

    def __eq__(self, other):
        return isinstance(other, County) and self._runs == other._runs


def gathered(runs):
    """The RUNS with all towns of these pairs."""
    towns = {}
    for size, many in runs:
        towns[size] = towns.get(size, 0) + many
    return tuple([(size, towns[size]) for size in sorted(towns)])


def run_text(size, many):
    """The text of so many towns of this size."""
    if many == 1:
        return digits_of(size)
    return f"{digits_of(size)}x{digits_of(many)}"


def run_in(word):
    """The pair (size, many) that is written so; no RUN if the word is not the text of one."""
    size, cross, many = word.partition("x")
    if cross == "":
        return (number_in(size), 1)
    # One town alone is written without the x.
    if many == "1":
        return None
    return (number_in(size), number_in(many))


def is_runs(thing):
    """Whether this is RUNS: a tuple of pairs of numbers from 1, ascending, no size twice."""
    if not isinstance(thing, tuple) or not all([is_pair(run) for run in thing]):
        return False
    return all([low[0] < high[0] for low, high in zip(thing, thing[1:])])


def shown(table):
    """The tuple of the Counties of the table that have a town, in order."""
    return tuple([county for county in table if len(county) > 0])
