"""A Board of reports: what they show of a book of which only bounds are known."""

from smalltowns.counties import County
from smalltowns.deeds import (check_report, first_state, tried, with_frame, with_house, with_report, with_step,
                              with_town, without_frame, without_report, without_town)
from smalltowns.errors import NoName, NoReport, Stopped
from smalltowns.order import compare


class Board:
    """A book of counties, a house Script and reports, some of them in frames."""

    def __init__(self):
        self._state = first_state()
        self._past = []

    @property
    def counties(self):
        """The set of the NAMEs of the counties that have a town."""
        return tuple(sorted(self._state.book))

    @property
    def house(self):
        """The house Script."""
        return self._state.ahead

    @property
    def names(self):
        """The set of the NAMEs of the reports."""
        return tuple(sorted(self._state.reports))

    @property
    def frames(self):
        """The triples (name, low, high) of all frames, ascending, with plain texts or None."""
        limits = self._state.limits
        return tuple([(name, plain_text(limits[name][0]), plain_text(limits[name][1])) for name in sorted(limits)])

    def towns_of(self, county):
        """The triples (town, low, high) of this county, ascending."""
        towns = self._towns(county)
        return tuple([(town, *towns[town]) for town in sorted(towns)])

    def __len__(self):
        return len(self._state.reports)

    def __contains__(self, x):
        return x in self._state.reports

    def __getitem__(self, at):
        if at not in self._state.reports:
            raise NoReport(at)
        return self._state.reports[at]

    def __iter__(self):
        raise TypeError("a Board can not be gone through: take its names")

    def sure(self, name):
        """The set of the pairs (county, town) that the report shows whatever the sizes are."""
        return self._shown(name, 0)

    def maybe(self, name):
        """The set of the pairs (county, town) that the report shows for some sizes."""
        return self._shown(name, 1)

    def rows_of(self, name, county):
        """The least and the greatest number of rows that the report shows of this county."""
        script = self._whole(name)
        towns = self._towns(county)
        return script(county_at(towns, 0)).rows, script(county_at(towns, 1)).rows

    def promise(self, name):
        """The least size of a town, and the least number of rows of a county, that can be shown at all."""
        script = self._whole(name)
        return script.least, script.floor(script.least)

    def idle(self):
        """The set of the NAMEs of the reports that can go, each by itself."""
        scripts = {name: self._whole(name) for name in self._state.reports}
        return tuple([name for name in sorted(scripts) if is_idle(scripts, name)])

    def effect(self, name, script):
        """How the report stands to this Script."""
        return compare(self[name], script)

    def __setitem__(self, at, worth):
        self._move_to(with_report(self._state, at, worth))

    def leave(self, name):
        """The report goes, with its frame."""
        self._move_to(without_report(self._state, name))

    def __iadd__(self, other):
        name, step = other
        self._move_to(with_step(self._state, name, step))
        return self

    def frame(self, name, low, high):
        """The report has this frame, in the place of an earlier one."""
        self._move_to(with_frame(self._state, name, low, high))

    def lift(self, name):
        """The frame of the report goes."""
        self._move_to(without_frame(self._state, name))

    def turn(self, script):
        """This is the house Script."""
        self._move_to(with_house(self._state, script))

    def put(self, county, town, low, high):
        """The town of the county has a size from low to high from now on."""
        self._move_to(with_town(self._state, county, town, low, high))

    def strike(self, county, town):
        """The town goes, and its county with the last one."""
        self._move_to(without_town(self._state, county, town))

    def attempt(self, deeds):
        """All of these deeds or none."""
        state = self._state
        for number, deed in enumerate(deeds):
            state, refused = tried(state, deed)
            if refused is not None:
                raise Stopped(number, refused[0], refused[1])
        self._move_to(state)

    def undo(self):
        """Take back the last deed; whether there was one."""
        if not self._past:
            return False
        self._state = self._past.pop()
        return True

    def twin(self):
        """Another Board in the same state, with the same deeds to take back."""
        other = Board()
        other._state = self._state
        other._past = list(self._past)
        return other

    def __eq__(self, other):
        return isinstance(other, Board) and self._state == other._state

    def _move_to(self, state):
        """Keep the State so far as one that can be taken back."""
        self._past.append(self._state)
        self._state = state

    def _whole(self, name):
        """The house Script and the report behind it."""
        check_report(self._state, name)
        return self._state.ahead >> self._state.reports[name]

    def _towns(self, county):
        """The towns of this county."""
        if county not in self._state.book:
            raise NoName(county)
        return self._state.book[county]

    def _shown(self, name, end):
        """The pairs (county, town) that the report shows when all towns are as small, or great, as can be."""
        script = self._whole(name)
        found = []
        for county in self.counties:
            towns = self._state.book[county]
            seen = script(county_at(towns, end))
            found.extend([(county, town) for town in sorted(towns) if towns[town][end] in seen])
        return tuple(found)


def board_of(state):
    """The Board in this State, without a deed to take back."""
    board = Board()
    board._state = state
    return board


def plain_text(script):
    """The text of the plain form, None for None."""
    if script is None:
        return None
    return script.plain.text


def county_at(towns, end):
    """The County of towns of which each is as small (0) or as great (1) as can be.

    Greater towns hide nothing that smaller ones show, so these two tell what is shown for all sizes.
    """
    return County([(bounds[end], 1) for bounds in towns.values()])


def is_idle(scripts, name):
    """Whether another one shows all that this one shows; of those that are alike the first one counts."""
    own = scripts[name]
    others = [other for other in scripts if other != name and own.within(scripts[other])]
    return any([other < name or scripts[other] != own for other in others])
