"""What a reader knows: what can have been hidden, when only what a Script shows is known."""

from smalltowns.bags import even_bag, least_bag
from smalltowns.counties import County
from smalltowns.errors import NeverShown, Unlike
from smalltowns.order import enough


def can_be_shown(script, shown):
    """Whether there is a county of which the Script shows just this."""
    if len(shown) == 0 or shown.runs[0][0] < script.least:
        return False
    return shown.rows >= script.floor(script.least)


def check_shown(script, shown):
    """Refuse what the Script shows of no county."""
    if not can_be_shown(script, shown):
        raise NeverShown()


def can_hide(script, shown, hidden):
    """Whether of both together the Script shows just what is shown."""
    check_shown(script, shown)
    return script(shown + hidden) == shown


def bonds(script, shown):
    """The pairs (size, rows): hidden towns of at least this size have so many rows together."""
    check_shown(script, shown)
    return tuple([(size, rows - shown.rows) for size, rows in script.floors if rows > shown.rows])


def bonds_from(script, shown, least):
    """The bonds of sizes from this one on: what is asked of lesser ones, lesser towns can give."""
    return [(size, rows) for size, rows in bonds(script, shown) if size >= least]


def hidden_runs(pairs, most):
    """The runs of a bag of fewest rows that keeps these bonds, with towns up to most."""
    if len(pairs) == 0:
        return []
    # The numbers of one bond may be great; those of several are told one by one.
    if len(pairs) == 1:
        return even_bag(pairs[0][0], most, pairs[0][1])
    return least_bag(most, {size: rows for size, rows in pairs}, [])


def rows_in(runs):
    """How many rows the towns of these runs have."""
    return sum([size * many for size, many in runs])


def least_rows(script, shown, size=1):
    """The least number of rows of the hidden towns of at least this size."""
    return rows_in(hidden_runs(bonds_from(script, shown, size), script.least - 1))


def least_towns(script, shown, size=1):
    """The least number of hidden towns of at least this size."""
    # Towns as great as can be keep all bonds at once.
    return max([enough(rows, script.least - 1) for _, rows in bonds_from(script, shown, size)], default=0)


def least_hidden(script, shown):
    """A hidden bag of fewest rows."""
    return County(hidden_runs(bonds(script, shown), script.least - 1))


def can_total(script, shown, rows):
    """Whether the county can have had just so many rows in all."""
    most = rows - shown.rows
    fewest = least_rows(script, shown)
    if script.least == 1:
        return most == 0
    # A town of one row more is hidden, too.
    return most >= fewest


def greatest_town(script, shown, rows):
    """The greatest hidden town that a county of so many rows can have had, 0 for none; None if it cannot be."""
    if not can_total(script, shown, rows):
        return None
    pairs = bonds(script, shown)
    most = rows - shown.rows
    for size in range(min(script.least - 1, most), 0, -1):
        left = hidden_runs(left_by_town(pairs, size), script.least - 1)
        if size + rows_in(left) <= most:
            return size
    return 0


def left_by_town(pairs, town):
    """What these bonds still ask when there is a town of this size."""
    left = [(size, rows - town if size <= town else rows) for size, rows in pairs]
    return [(size, rows) for size, rows in left if rows > 0]


def agree(scripts, shown):
    """Whether there is a county of which each Script shows just what is told."""
    return county_for(scripts, shown) is not None


def fewest_rows_for(scripts, shown):
    """The least number of rows of such a county; None if there is none."""
    found = county_for(scripts, shown)
    if found is None:
        return None
    return found.rows


def county_for(scripts, shown):
    """Such a county of fewest rows; None if there is none."""
    if len(scripts) != len(shown):
        raise Unlike()
    pairs = list(zip(scripts, shown))
    seen = [(script, county) for script, county in pairs if len(county) > 0]
    if len(seen) == 0:
        return County()
    # The Script that shows the least towns tells of all towns from there on.
    least = min([script.least for script, _ in seen])
    firm = [county for script, county in seen if script.least == least][0]
    if any([firm.only(script.least) != county for script, county in seen]):
        return None
    asked = [pair for script, _ in seen for pair in script.floors]
    if any([firm.rows_from(size) < rows for size, rows in asked if size >= least]):
        return None
    unseen = [script.floors for script, county in pairs if len(county) == 0]
    runs = least_bag(least - 1, lows_of(asked, firm, least), highs_of(unseen, firm, least))
    if runs is None:
        return None
    return firm + County(runs)


def lows_of(asked, firm, least):
    """The rows that the towns below least must have, from each size on, beside the firm ones."""
    lows = {}
    for size, rows in asked:
        if size < least:
            lows[size] = max(lows.get(size, 0), rows - firm.rows)
    return lows


def highs_of(unseen, firm, least):
    """For each of the floors of which one must not be kept: the rows that are too many below least."""
    free = [floors for floors in unseen
            if all([firm.rows_from(size) >= rows for size, rows in floors if size >= least])]
    return [{size: max(0, rows - firm.rows) for size, rows in floors if size < least} for floors in free]
