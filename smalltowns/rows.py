"""Several Scripts one behind another, in an order that nobody may know."""

from smalltowns.counties import County
from smalltowns.scripts import Script


def in_row(scripts, order):
    """The plain form of these Scripts, one behind another in this order."""
    return Script([step for number in order for step in scripts[number].steps]).plain


def shortened(scripts, order):
    """The shortest order alike to this one that is left when numbers go, and of these the least."""
    whole = in_row(scripts, order)
    alike = [(len(part), part) for part in parts_of(order) if in_row(scripts, part) == whole]
    return min(alike)[1]


def parts_of(order):
    """The orders that are left when numbers of this one go, maybe none or all."""
    parts = [()]
    for number in order:
        parts = parts + [(*part, number) for part in parts]
    return parts


def orders_of(numbers):
    """All orders of these ascending numbers, ascending."""
    if len(numbers) == 0:
        return [()]
    found = []
    for place, number in enumerate(numbers):
        rests = orders_of(numbers[:place] + numbers[place + 1:])
        found.extend([(number, *rest) for rest in rests])
    return found


def unlike_rows(scripts):
    """The pairs (order, Script) of the orders that are alike to no lesser one."""
    found = []
    for order in orders_of(list(range(len(scripts)))):
        script = in_row(scripts, order)
        if not any([script == own for _, own in found]):
            found.append((order, script))
    return found


def outcomes(scripts):
    """The pairs (order, text) of the orders that are alike to no lesser one."""
    return [(order, script.text) for order, script in unlike_rows(scripts)]


def all_alike(scripts):
    """Whether all orders are alike."""
    return len(unlike_rows(scripts)) == 1


def unlike_pair(scripts):
    """The least pair of numbers whose two orders are not alike; None if there is none."""
    for low in range(len(scripts)):
        for high in range(low + 1, len(scripts)):
            if in_row(scripts, (low, high)) != in_row(scripts, (high, low)):
                return low, high
    return None


def most_order(scripts):
    """The least order within which each order is; None if there is none."""
    rows = unlike_rows(scripts)
    around = rows[0][1]
    for _, script in rows:
        around = around | script
    return order_alike(rows, around)


def least_order(scripts):
    """The least order that is within each order; None if there is none."""
    rows = unlike_rows(scripts)
    within = rows[0][1]
    for _, script in rows:
        within = within & script
    return order_alike(rows, within)


def order_alike(rows, script):
    """The order of the one that is alike to the Script; None if there is none."""
    for order, own in rows:
        if own == script:
            return order
    return None


def always(scripts, county):
    """The County of the towns that are shown in all orders."""
    seen = [script(county) for _, script in unlike_rows(scripts)]
    return County([(size, many) for size, many in county.runs if all([size in own for own in seen])])


def sometimes(scripts, county):
    """The County of the towns that are shown in one order or more."""
    seen = [script(county) for _, script in unlike_rows(scripts)]
    return County([(size, many) for size, many in county.runs if any([size in own for own in seen])])
