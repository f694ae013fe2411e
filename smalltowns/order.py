"""The order of Scripts: which one shows less for all counties, and which ones stand between."""

from math import comb

from smalltowns.counties import County
from smalltowns.errors import NoNumber, NotBetween, NoTown
from smalltowns.falling import falling_many, nth_falling, rank_falling
from smalltowns.forms import joined, numbers_in, script_of, script_with
from smalltowns.stairs import stretches


def compare(p, q):
    """How the first Script stands to the second one."""
    if p == q:
        return "alike"
    if p.within(q):
        return "within"
    if q.within(p):
        return "around"
    return "neither"


def above(p):
    """The Scripts just around this one: one number less by one, or no 1 any more."""
    runs = p.form
    found = []
    for place, (first, last) in enumerate(runs):
        moved = [(first - 1, first - 1)] if first > 1 else []
        form = joined([*runs[:place], *moved, (first + 1, last), *runs[place + 1:]])
        # Only the set of 1 alone would be left without numbers.
        if form:
            found.append(script_of(form))
    return found


def below(p):
    """The Scripts just within this one: one number greater by one, or a 1 besides."""
    runs = p.form
    found = []
    for place, (first, last) in enumerate(runs):
        moved = (last + 1, last + 1)
        found.append(script_of(joined([*runs[:place], (first, last - 1), moved, *runs[place + 1:]])))
    if runs[0][0] > 1:
        found.append(script_of(joined([(1, 1), *runs])))
    return found


def strictness(p):
    """How many steps down lead from the Script without steps to this one."""
    return sum([(first + last) * (last - first + 1) // 2 for first, last in p.form]) - 1


def enough(rows, size):
    """How many towns of this size have so many rows at least."""
    return -(-rows // size)


def outside_county(p, q):
    """A County of which p shows a town, and rows, that q does not; None if p is within q."""
    if p.within(q):
        return None
    if p.least < q.least:
        return County(((p.least, enough(p.floor(1), p.least)),))
    sizes = [size for size, rows in q.floors if p.floor(size) < rows]
    size = sizes[0]
    # One town has just the rows that p asks from this size on, which q does not take for enough;
    # what p asks from lesser sizes on is made up by towns that do not count there.
    rows = p.floor(size)
    lacking = p.floor(1) - rows
    if lacking == 0:
        return County(((rows, 1),))
    return County(((rows, 1), (size - 1, enough(lacking, size - 1))))


def parting_county(p, q):
    """A County of which the Scripts show unlike towns; None if they are alike."""
    found = outside_county(p, q)
    if found is None:
        return outside_county(q, p)
    return found


def strictest(wishes):
    """The Script within all others that show the town of each wish; None without wishes."""
    for county, size in wishes:
        if size not in county:
            raise NoTown(size)
    if len(wishes) == 0:
        return None
    least = min([size for _, size in wishes])
    # Rows are counted alike from all sizes between two that stand in a county.
    ends = sorted({size for county, _ in wishes for size, _ in county.runs if size <= least})
    return script_with(stretches([(end, least_rows_from(wishes, end)) for end in ends]))


def least_rows_from(wishes, size):
    """The least number of rows that a county of the wishes has in towns of this size on."""
    return min([county.rows_from(size) for county, _ in wishes])


def many_with(least, most):
    """How many Scripts show towns from just this size on and ask at most so many rows of all."""
    if least < 1 or most < least:
        return 0
    return comb(most, least)


def many_strict(number, most):
    """How many Scripts with numbers up to most have this strictness."""
    if number < 0:
        return 0
    # For each sum: how many sets of the numbers gone through so far have it.
    whole = number + 1
    many = [1] + [0] * whole
    for extra in range(1, min(most, whole) + 1):
        with_it = [0] * extra + many
        many = [old + new for old, new in zip(many, with_it)]
    return many[whole]


def bounds_between(p, q):
    """The lows and the highs of the numbers, from the greatest down, of all that stand between."""
    return numbers_in(q.form) + [1] * (p.least - q.least), numbers_in(p.form)


def lengths_between(p, q):
    """How many Scripts stand between, by how many numbers they have: pairs (length, many)."""
    # Nothing stands between then, and q may have more numbers than can be told one by one.
    if not p.within(q):
        return []
    lows, highs = bounds_between(p, q)
    counts = falling_many(lows, highs)
    return [(length, counts[length]) for length in range(q.least, p.least + 1)]


def many_between(p, q):
    """How many Scripts are within q and have p within them."""
    return sum([many for _, many in lengths_between(p, q)])


def nth_between(p, q, number):
    """The Script between p and q with this number."""
    left = number
    for length, many in lengths_between(p, q):
        if 0 <= left < many:
            lows, highs = bounds_between(p, q)
            numbers = nth_falling(lows[:length], highs[:length], left)
            return script_of(joined([(own, own) for own in numbers[::-1]]))
        left = left - many
    raise NoNumber(number)


def rank_between(p, q, third):
    """The number of the third Script between p and q."""
    if not (p.within(third) and third.within(q)):
        raise NotBetween(third.form)
    shorter = sum([many for length, many in lengths_between(p, q) if length < third.least])
    lows, highs = bounds_between(p, q)
    return shorter + rank_falling(lows[:third.least], highs[:third.least], numbers_in(third.form))
