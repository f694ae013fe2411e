"""Behind and ahead: which Scripts can be put there, and when it does nothing."""

from smalltowns.forms import script_with
from smalltowns.stairs import sizes_in, stretches
from smalltowns.steps import Step


def rests(p, whole):
    """The strictest and the widest Script that behind p make the whole; None if none does."""
    if whole.least < p.least or rows_missed(p, whole):
        return None
    asked = whole.floor(p.least)
    tail = [(size, rows) for size, rows in whole.floors if size > p.least]
    narrow = stretches([(p.least, asked), *tail])
    if asked > p.floor(p.least):
        wide = stretches([(1, asked), *tail])
    else:
        wide = tail or [(1, 1)]
    return script_with(narrow), script_with(wide)


def rows_missed(p, whole):
    """The greater floor at each size at which nothing behind p can ask what the whole asks.

    Of all sizes up to the least one that p shows, a Script behind p asks the same rows.
    """
    asked = whole.floor(p.least)
    sizes = sizes_in(p.floors, whole.floors, p.least)
    missed = [size for size in sizes if whole.floor(size) != max(p.floor(size), asked)]
    return [max(p.floor(size), whole.floor(size)) for size in missed]


def fronts(p, whole):
    """The strictest and the widest Script that ahead of p make the whole; None if none does."""
    if whole.least < p.least:
        return None
    # p asks its floor of 1 of all sizes that a Script ahead leaves out, and of what it shows.
    asked = p.floor(1)
    firm = [(size, rows) for size, rows in whole.floors if rows > asked]
    narrow = [(size, rows) for size, rows in whole.floors if rows >= asked]
    least = max(1, last_size(firm), last_unlike(p, whole))
    if last_size(narrow) < least:
        return None
    wide = firm if last_size(firm) == least else [*firm, (least, least)]
    return script_with(narrow), script_with(wide)


def last_size(floors):
    """The last size of these floors, 0 if there is none."""
    return max([size for size, _ in floors], default=0)


def last_unlike(p, whole):
    """The greatest size at which the whole does not ask what p asks, 0 if there is none."""
    sizes = sizes_in(p.floors, whole.floors, whole.least)
    return max([size for size in sizes if p.floor(size) != whole.floor(size)], default=0)


def either_order(p, other):
    """Whether it is all the same which one of both is done first."""
    return (p >> other) == (other >> p)


def steady(p):
    """Whether p done again does nothing."""
    return (p >> p) == p


def idle_behind(p, other):
    """Whether the other Script does nothing behind p."""
    return (p >> other) == p


def idle_ahead(p, other):
    """Whether the other Script does nothing ahead of p."""
    return (other >> p) == p


def meeting(p, other):
    """The widest Script that can be made of each of both by putting something behind."""
    small, great = (p, other) if p.least <= other.least else (other, p)
    # Behind the great one so many rows are asked that its floors do not show any more where
    # the small one has other floors.
    rows = max([great.floor(great.least), *rows_missed(small, great)])
    return (great >> Step("county", rows)).plain
