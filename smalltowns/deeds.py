"""Deeds: what is done on a Board, each of which makes a new State out of an earlier one.

A State never changes, nor does any dict in it. So an earlier one can simply be taken again, and a
deed that is refused leaves nothing behind.
"""

from smalltowns.errors import BadSize, NoFrame, NoName, NoReport, Outside
from smalltowns.scripts import Script


class State:
    """The house Script, reports by NAME, limits (low, high) by NAME, and counties of towns (low, high)."""

    def __init__(self, ahead, reports, limits, book):
        self.ahead = ahead
        self.reports = reports
        self.limits = limits
        self.book = book

    def __eq__(self, other):
        return (isinstance(other, State) and self.ahead == other.ahead and self.reports == other.reports
                and self.limits == other.limits and self.book == other.book)


def first_state():
    """The State of a Board on which nothing was done."""
    return State(Script(), {}, {}, {})


def check_report(state, name):
    """Refuse a NAME without a report."""
    if name not in state.reports:
        raise NoReport(name)


def is_between(script, limit):
    """Whether the Script stays within this frame (low, high)."""
    low, high = limit
    return (low is None or low.within(script)) and (high is None or script.within(high))


def with_one(table, name, value):
    """A new dict with this value for the NAME."""
    return {**table, name: value}


def without_one(table, name):
    """A new dict without the NAME."""
    return {own: value for own, value in table.items() if own != name}


def with_report(state, name, script):
    """This is the report."""
    if name in state.limits and not is_between(script, state.limits[name]):
        raise Outside(name)
    return State(state.ahead, with_one(state.reports, name, script), state.limits, state.book)


def without_report(state, name):
    """The report goes, with its frame."""
    check_report(state, name)
    return State(state.ahead, without_one(state.reports, name), without_one(state.limits, name), state.book)


def with_step(state, name, step):
    """The Step comes behind those of the report."""
    check_report(state, name)
    return with_report(state, name, state.reports[name] >> step)


def with_frame(state, name, low, high):
    """The report has this frame."""
    check_report(state, name)
    if not is_between(state.reports[name], (low, high)):
        raise Outside(name)
    return State(state.ahead, state.reports, with_one(state.limits, name, (low, high)), state.book)


def without_frame(state, name):
    """The frame of the report goes."""
    check_report(state, name)
    if name not in state.limits:
        raise NoFrame(name)
    return State(state.ahead, state.reports, without_one(state.limits, name), state.book)


def with_house(state, script):
    """This is the house Script."""
    return State(script, state.reports, state.limits, state.book)


def with_town(state, county, town, low, high):
    """The town of the county has a size from low to high."""
    if high < low:
        raise BadSize((low, high))
    towns = with_one(state.book.get(county, {}), town, (low, high))
    return State(state.ahead, state.reports, state.limits, with_one(state.book, county, towns))


def without_town(state, county, town):
    """The town goes, and its county with the last one."""
    if county not in state.book:
        raise NoName(county)
    if town not in state.book[county]:
        raise NoName(town)
    towns = without_one(state.book[county], town)
    book = with_one(state.book, county, towns) if towns else without_one(state.book, county)
    return State(state.ahead, state.reports, state.limits, book)


DEEDS = {
    "set": with_report,
    "leave": without_report,
    "step": with_step,
    "frame": with_frame,
    "lift": without_frame,
    "turn": with_house,
    "put": with_town,
    "strike": without_town,
}


def after(state, deed):
    """The State behind this deed, told as a tuple with its kind first."""
    kind, *rest = deed
    make = DEEDS[kind]
    return make(state, *rest)


def tried(state, deed):
    """The State behind this deed, and None; if it is refused, the same State and why.

    That is a pair: the name of the class of the error, and the NAME or the pair that it keeps.
    """
    try:
        return after(state, deed), None
    except NoReport as no_report:
        return state, ("NoReport", no_report.name)
    except NoFrame as no_frame:
        return state, ("NoFrame", no_frame.name)
    except NoName as no_name:
        return state, ("NoName", no_name.name)
    except Outside as outside:
        return state, ("Outside", outside.name)
    except BadSize as bad_size:
        return state, ("BadSize", bad_size.pair)
