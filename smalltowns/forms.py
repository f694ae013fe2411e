"""Forms: the sets of numbers that tell, for all counties, what Scripts show."""

from smalltowns.scripts import Script
from smalltowns.stairs import floors_in, steps_for
from smalltowns.values import is_pair


def is_form(thing):
    """Whether this is a FORM: ascending pairs (first, last), at least one, with gaps between."""
    if not isinstance(thing, tuple) or thing == ():
        return False
    if not all([is_pair(run) and run[0] <= run[1] for run in thing]):
        return False
    return all([low[1] + 1 < high[0] for low, high in zip(thing, thing[1:])])


def script_with(floors):
    """The plain Script with these floors."""
    return Script(steps_for(floors))


def script_of(form):
    """The plain Script with this FORM."""
    return script_with(floors_in(form))


def joined(runs):
    """All numbers of these ascending runs as a FORM; they may touch, and may be empty."""
    form = []
    for first, last in runs:
        if form and form[-1][1] + 1 == first:
            form[-1] = (form[-1][0], max(form[-1][1], last))
        elif first <= last:
            form.append((first, last))
    return tuple(form)


def numbers_in(form):
    """The numbers that the FORM tells, from the greatest down: for FORMs of few numbers."""
    return [number for first, last in form[::-1] for number in range(last, first - 1, -1)]
