"""Stairs: what a script asks of a county as it goes in, told without its steps.

Floors are a tuple of pairs (size, rows), the sizes ascending and the rows falling: so many rows
are asked of all towns of this size and of greater ones together, and as many of those of each
size below it, down to the size of the pair ahead. The last size is the least one that is shown.
"""

from smalltowns.steps import Step


def floors_of(steps):
    """The floors of these steps, done one after another."""
    floors = [(1, 1)]
    for step in steps:
        # A county step asks its rows of the towns that are left by then.
        size = floors[-1][0]
        if step.kind == "town":
            size = max(size, step.least)
        while floors and floors[-1][1] <= step.least:
            floors.pop()
        if not floors or floors[-1][0] < size:
            floors.append((size, step.least))
    return tuple(floors)


def steps_for(floors):
    """The fewest steps that have these floors."""
    least = floors[-1][0]
    steps = []
    for size, rows in floors:
        if size > 1:
            steps.append(Step("town", size))
        if rows > least:
            steps.append(Step("county", rows))
    return tuple(steps)


def floor_at(floors, size):
    """The rows that are asked of the towns from this size on, 0 above the last one."""
    for end, rows in floors:
        if size <= end:
            return rows
    return 0


def stretches(pairs):
    """These floors, but one pair alone for neighbours that ask the same rows."""
    rows_behind = [*[rows for _, rows in pairs[1:]], 0]
    return tuple([pair for pair, rows in zip(pairs, rows_behind) if pair[1] != rows])


def sizes_in(floors, others, most):
    """The sizes up to most at which a stretch of one of both ends, ascending.

    Between two of them both floors stay as they are, so these are all that need to be looked at.
    """
    return sorted({size for size, _ in floors + others if size <= most})


def greater_floors(floors, others):
    """The greater one of both floors at each size, the rest from the longer ones."""
    sizes = sizes_in(floors, others, max(floors[-1][0], others[-1][0]))
    return stretches([(size, max(floor_at(floors, size), floor_at(others, size))) for size in sizes])


def lesser_floors(floors, others):
    """The lesser one of both floors at each size, as far as the shorter ones go."""
    sizes = sizes_in(floors, others, min(floors[-1][0], others[-1][0]))
    return stretches([(size, min(floor_at(floors, size), floor_at(others, size))) for size in sizes])


def form_of(floors):
    """The FORM of these floors: each stretch is one run of neighbours, the first one the greatest."""
    form = []
    end = 0
    for size, rows in floors:
        form.append((rows - size + 1, rows - end))
        end = size
    return tuple(form[::-1])


def floors_in(form):
    """The floors with this FORM."""
    floors = []
    size = 0
    for first, last in form[::-1]:
        rows = last + size
        size = size + last - first + 1
        floors.append((size, rows))
    return tuple(floors)
