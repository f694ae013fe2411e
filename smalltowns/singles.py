"""Counties in which one town alone decides what is shown."""

from smalltowns.counties import County
from smalltowns.order import enough


def town_over(town, size, rows):
    """The County of one town and of so many of a lesser size as have these rows; of none of size 0.

    From one above this size on it has just the rows of the town, and from each lesser size on enough.
    """
    if size == 0:
        return County(((town, 1),))
    return County(((town, 1), (size, enough(rows, size))))
