"""Bags of few rows: the least towns of which those from some sizes on have enough rows together.

Bags are told by runs: pairs (size, many). What is asked of a bag is told by lows, a dict: the towns
of a size and of all greater ones have at least so many rows; and by highs, a list of dicts, for each
of which at one of its sizes, at least, these towns have fewer rows than it says.

Sums are kept as the bits of a number, one number for each set of highs that are met so far.
"""

from smalltowns.order import enough


def even_bag(least, most, rows):
    """The runs of towns from least to most that have at least so many rows, and no more than they must."""
    towns = enough(rows, most)
    size, greater = divmod(max(rows, towns * least), towns)
    return [(own, many) for own, many in ((size, towns - greater), (size + 1, greater)) if many > 0]


def least_bag(most, lows, highs):
    """The runs of a bag of fewest rows with towns up to most; None if there is none."""
    # More rows are never needed: without its least town such a bag would still do.
    limit = max(list(lows.values()), default=0) + most
    reached = {0: 1}
    ahead = []
    for size in range(most, 0, -1):
        ahead.append((size, reached))
        filled = {met: with_towns(sums, size, limit) for met, sums in reached.items()}
        reached = parted(lifted(filled, lows.get(size, 0)), highs, size)
    met = all_met(highs)
    sums = reached.get(met, 0)
    if sums == 0:
        return None
    return runs_back(ahead, highs, met, lowest(sums))


def all_met(highs):
    """The set of all highs."""
    return (1 << len(highs)) - 1


def lowest(sums):
    """The least of these sums."""
    return (sums & -sums).bit_length() - 1


def with_towns(sums, size, limit):
    """These sums, and all up to the limit with any number of towns of this size besides."""
    rows = size
    while rows <= limit:
        sums = sums | (sums << rows)
        rows = rows * 2
    return sums & ((1 << (limit + 1)) - 1)


def lifted(reached, rows):
    """Only the sums of at least so many rows."""
    return {met: (sums >> rows) << rows for met, sums in reached.items()}


def parted(reached, highs, size):
    """The sums by the highs that are met when all towns from this size on are there."""
    for place, high in enumerate(highs):
        few = (1 << high.get(size, 0)) - 1
        found = {}
        for met, sums in reached.items():
            # If it was met before, both are the same set, and all sums stay in it.
            now = met | (1 << place)
            found[met] = found.get(met, 0) | (sums ^ (sums & few))
            found[now] = found.get(now, 0) | (sums & few)
        reached = found
    return reached


def met_at(highs, size, rows):
    """The set of the highs that so many rows in towns from this size on meet."""
    return sum([1 << place for place, high in enumerate(highs) if rows < high.get(size, 0)])


def runs_back(ahead, highs, met, rows):
    """The runs of a bag with which these highs are met by so many rows."""
    runs = []
    for size, reached in ahead[::-1]:
        now = met_at(highs, size, rows)
        befores = [before for before in reached if before | now == met]
        met, many = way_back(reached, befores, size, rows)
        rows = rows - size * many
        if many > 0:
            runs.append((size, many))
    return runs


def way_back(reached, befores, size, rows):
    """Of which highs met before, and by how many towns of this size, so many rows come about."""
    for many in range(rows // size + 1):
        for met in befores:
            if (reached[met] >> (rows - size * many)) & 1:
                return met, many
