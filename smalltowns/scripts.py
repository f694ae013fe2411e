"""Scripts: steps that are done one after another."""

from smalltowns.counties import shown
from smalltowns.errors import NoPlace, NoTown
from smalltowns.stairs import floor_at, floors_of, form_of, greater_floors, lesser_floors, steps_for
from smalltowns.steps import Step


class Script:
    """Steps that are done on a county, each on what those ahead have left."""

    def __init__(self, steps=()):
        self._steps = tuple(steps)
        self._floors = floors_of(self._steps)

    @staticmethod
    def of(text):
        """The Script with this text."""
        if text == "-":
            return Script()
        return Script([Step.of(part) for part in text.split("; ")])

    @property
    def steps(self):
        """The tuple of the Steps."""
        return self._steps

    @property
    def text(self):
        """The texts of the Steps, one behind another."""
        if not self._steps:
            return "-"
        return "; ".join([step.text for step in self._steps])

    @property
    def form(self):
        """The FORM: the set of numbers that tells what is shown, by runs of neighbours."""
        return form_of(self._floors)

    @property
    def least(self):
        """The least size of a town that can be shown."""
        return self._floors[-1][0]

    @property
    def floors(self):
        """The floors by stretches: pairs (size, rows)."""
        return self._floors

    @property
    def plain(self):
        """The Script alike to this one that has as few steps as can be."""
        return Script(steps_for(self._floors))

    def floor(self, size):
        """How many rows are asked of the towns from this size on; 0 above the least one shown."""
        return floor_at(self._floors, size)

    def __len__(self):
        return len(self._steps)

    def __getitem__(self, at):
        if at < 0 or at >= len(self._steps):
            raise NoPlace(at)
        return self._steps[at]

    def __iter__(self):
        raise TypeError("a Script can not be gone through: take its steps")

    def __call__(self, county):
        """The County that is shown in the end."""
        left = county
        for step in self._steps:
            left = step(left)
        return left

    def table(self, table):
        """The tuple of what is shown of each County, those without towns left out."""
        return shown([self(county) for county in table])

    def shows(self, county, size):
        """Whether the towns of this size of the County are shown."""
        if size not in county:
            raise NoTown(size)
        return size in self(county)

    def within(self, other):
        """Whether the other Script shows, for all counties, each town that this one shows."""
        return all([floor_at(self._floors, size) >= rows for size, rows in other.floors])

    def __eq__(self, other):
        return isinstance(other, Script) and self._floors == other._floors

    def __rshift__(self, other):
        if isinstance(other, Step):
            return Script((*self._steps, other))
        if isinstance(other, Script):
            return Script(self._steps + other.steps)
        return NotImplemented

    def __mul__(self, other):
        if not isinstance(other, int):
            return NotImplemented
        # The third time nothing goes that the second time has left.
        steps = self._steps * min(other, 2)
        return Script(steps_for(floors_of(steps)))

    def __and__(self, other):
        if not isinstance(other, Script):
            return NotImplemented
        return Script(steps_for(greater_floors(self._floors, other.floors)))

    def __or__(self, other):
        if not isinstance(other, Script):
            return NotImplemented
        return Script(steps_for(lesser_floors(self._floors, other.floors)))
