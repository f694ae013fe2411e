"""What looks tell of a hidden Script, and what is to be asked to know it."""

from smalltowns.counties import County
from smalltowns.errors import Known, Unfit
from smalltowns.forms import script_of
from smalltowns.order import above, many_between, outside_county, strictest
from smalltowns.scripts import Script
from smalltowns.singles import town_over


def fits(script, looks):
    """Whether all LOOKS are right for the Script."""
    return all([script.shows(county, size) == shown for county, size, shown in looks])


def strictest_shown(looks):
    """The strictest Script for which the LOOKS that say True are right; None without such."""
    return strictest([(county, size) for county, size, shown in looks if shown])


def strictest_fit(looks):
    """The Script for which all LOOKS are right that is within each other one; None if there is none such."""
    low = strictest_shown(looks)
    # Without a LOOK that says True a Script can be as strict as you like, so that all fit.
    if low is not None and not fits(low, looks):
        raise Unfit()
    return low


def sure(looks, county, size):
    """Whether all Scripts that fit show these towns, or none does; None if both can be."""
    asked = strictest(((county, size),))
    low = strictest_fit(looks)
    if low is not None and low.shows(county, size):
        return True
    # The strictest Script that fits and shows them, if any does.
    shows = asked if low is None else low | asked
    return None if fits(shows, looks) else False


def only_fit(looks):
    """The Script to which all that fit are alike; None if there are several."""
    low = strictest_fit(looks)
    if low is None or wider_fit(low, looks) is not None:
        return None
    return low


def wider_fit(low, looks):
    """A Script just around the strictest one that fits, too; None if that is the only one."""
    for wider in above(low):
        if fits(wider, looks):
            return wider
    return None


def how_many_fit(looks):
    """How many Scripts fit, no two of them alike; None if there are endlessly many."""
    low = strictest_fit(looks)
    if low is None:
        return None
    # By FORM: how often the Scripts around this one count. Those around the strictest one count once;
    # those around what a LOOK that says False bars are taken off again, wherever they count by then.
    counts = {low.form: 1}
    for county, size, shown in looks:
        if not shown:
            counts = barred(counts, strictest(((county, size),)))
    return sum([many * many_between(script_of(form), Script()) for form, many in counts.items()])


def barred(counts, lowest):
    """The counts without all that is around this Script."""
    found = {form: many for form, many in counts.items()}
    for form, many in counts.items():
        joined = (script_of(form) | lowest).form
        found[joined] = found.get(joined, 0) - many
    return found


def next_look(looks):
    """A pair (county, size) of which both answers can come; None if there is none."""
    low = strictest_shown(looks)
    if low is None:
        # Nothing that has been looked at has so many rows: what asks just these, or more, fits.
        rows = max([county.rows for county, _, _ in looks], default=0) + 1
        return County(((rows, 1),)), rows
    if not fits(low, looks):
        return None
    wider = wider_fit(low, looks)
    if wider is None:
        return None
    return parting_look(wider, low)


def parting_look(p, q):
    """A pair (county, size) that p shows and q does not; p is not within q."""
    county = outside_county(p, q)
    hidden = q(county)
    return county, [size for size, _ in p(county).runs if size not in hidden][0]


def telling_table(most):
    """Counties of which no two Scripts with numbers up to most show the same, if they are not alike."""
    # The town is shown exactly if from one above the size on no more rows are asked than it has.
    return tuple([town_over(town, size, most) for size in range(most) for town in range(size + 1, most + 1)])


def read_off(most, told):
    """The Script with numbers up to most that shows this of the telling table."""
    table = telling_table(most)
    if len(told) != len(table) or not all([part.within(county) for part, county in zip(told, table)]):
        raise Unfit()
    wishes = [(county, size) for part, county in zip(told, table) for size, _ in part.runs]
    # For each floor the table has a County with just so many rows from there on, and it shows the
    # least size, so the strictest Script that shows all this is the only one that can be meant.
    script = strictest(wishes)
    if script is None or script.floor(1) > most:
        raise Unfit()
    if not all([script(county) == part for part, county in zip(told, table)]):
        raise Unfit()
    return script


class Search:
    """Looks for an unknown Script by questions, from the greatest run of neighbours of its SET down."""

    def __init__(self, most):
        self._runs = []
        self._last = None
        self._low = 1
        self._high = most
        self._answers = []
        self._script = None
        self._go_on()

    @property
    def ask(self):
        """The pair (county, size) that is to be asked now; None if the Script is known."""
        return self._ask

    @property
    def script(self):
        """The Script, None as long as it is not known."""
        return self._script

    def __len__(self):
        return len(self._answers)

    def tell(self, shown):
        """Take the answer: whether the towns of this size are shown."""
        if self._ask is None:
            raise Known()
        self._answers.append(shown)
        middle = (self._low + self._high) // 2
        # A last number is at most this one if the towns are shown, a first one if they are not.
        if shown == (self._last is None):
            self._high = middle
        else:
            self._low = middle + 1
        self._go_on()

    def _go_on(self):
        """Take down what is settled, up to the next question."""
        while self._low == self._high and self._script is None:
            if self._last is None:
                self._take_last(self._low)
            else:
                self._take_first(self._low)
        self._ask = None if self._script is not None else self._question()

    def _take_last(self, last):
        """The next run ends with this number; 0 if there is no further run."""
        if last == 0:
            self._script = script_of(self._runs[::-1])
        else:
            self._last = last
            self._low = 1
            self._high = last

    def _take_first(self, first):
        """The run begins with this number."""
        self._runs.append((first, self._last))
        self._last = None
        self._low = 0
        self._high = max(0, first - 2)

    def _question(self):
        """The pair that tells on which side of the middle the number is."""
        # So many numbers are known so far, and the floors of as many sizes.
        size = sum([last - first + 1 for first, last in self._runs])
        middle = (self._low + self._high) // 2
        if self._last is None:
            town = size + middle
            rows = self._runs[0][1] if self._runs else 0
        else:
            town = size + self._last - 1
            rows = self._runs[0][1] if self._runs else self._last
            size = size + self._last - middle
        return town_over(town, size, rows), town
