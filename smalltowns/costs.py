"""What steps do, and what hangs on single towns."""

from smalltowns.counties import County
from smalltowns.errors import NoTown
from smalltowns.order import enough
from smalltowns.scripts import Script


def needless(script):
    """The numbers of the steps each of which can be left out by itself."""
    return tuple([place for place in range(len(script)) if shortened_at(script, place) == script])


def shortened_at(script, place):
    """The Script without the step at this place."""
    return Script(script.steps[:place] + script.steps[place + 1:])


def steps_needed(script):
    """How many town steps and how many county steps a Script alike to this one has at the least."""
    kinds = [step.kind for step in script.plain.steps]
    return kinds.count("town"), kinds.count("county")


def taken_by(script, county, size):
    """The number of the step in which the towns of this size go; None if they are shown."""
    if size not in county:
        raise NoTown(size)
    left = county
    for place, step in enumerate(script.steps):
        left = step(left)
        if size not in left:
            return place
    return None


def lacking(script, county):
    """The pairs (size, rows): the towns of at least this size need so many rows more."""
    gaps = [(size, rows - county.rows_from(size)) for size, rows in script.floors]
    return [(size, rows) for size, rows in gaps if rows > 0]


def new_town(script, county):
    """The least size with which one further town would be shown itself."""
    return max([script.least, *[rows for _, rows in lacking(script, county)]])


def without_town(county, size):
    """The County with one town of this size less."""
    left = [(own, many - 1 if own == size else many) for own, many in county.runs]
    return County([(own, many) for own, many in left if many > 0])


def pillars(script, county):
    """The sizes of which one town fewer would hide other towns that are shown now."""
    seen = script(county)
    return tuple([size for size, _ in county.runs if holds_others(script, county, seen, size)])


def holds_others(script, county, seen, size):
    """Whether others are seen only as long as no town of this size goes."""
    others = seen.towns - 1 if size in seen else seen.towns
    return others > 0 and script(without_town(county, size)).towns == 0


def towns_to_lose(script, county, size):
    """The least number of other towns that must go so that one of this size is hidden; None if none can do it."""
    if not script.shows(county, size):
        return 0
    others = without_town(county, size)
    # The town that stays must not be enough by itself.
    needs = [county.rows_from(own) - rows + 1 for own, rows in script.floors if rows > size]
    return min([towns_with(others, need) for need in needs], default=None)


def towns_with(county, rows):
    """How many of the greatest towns have so many rows together; all have at least as many."""
    towns = 0
    need = rows
    for size, many in county.runs[::-1]:
        if size * many >= need:
            return towns + enough(need, size)
        towns = towns + many
        need = need - size * many
    return towns


def town_to_add(script, county, size):
    """The least number of rows of further towns with which this size is shown; None if none can do it."""
    if script.shows(county, size):
        return 0
    if size < script.least:
        return None
    # What lacks from some size on, only towns of at least this size can bring.
    return max([max(own, rows) for own, rows in lacking(script, county)])
