"""Plans: steps on countries of counties, some of which ask for rows in the whole country."""

from smalltowns.counties import County, shown
from smalltowns.errors import BadStep, BadText, NoPlace
from smalltowns.forms import script_of
from smalltowns.order import enough, parting_county
from smalltowns.scripts import Script
from smalltowns.singles import town_over
from smalltowns.steps import Step
from smalltowns.values import digits_of, number_in

KINDS = ("town", "county", "country")


class Plan:
    """Steps (kind, least) that are done on a COUNTRY, one after another."""

    def __init__(self, steps=()):
        for kind, least in steps:
            if kind not in KINDS or least < 1:
                raise BadStep((kind, least))
        self._steps = tuple([(kind, least) for kind, least in steps])
        self._script = script_ahead(self._steps)
        self._holds = holds_of(self._steps, self._script)

    @staticmethod
    def of(text):
        """The Plan with this text."""
        if text == "-":
            return Plan()
        return Plan([step_in(part) for part in text.split("; ")])

    @property
    def steps(self):
        """The tuple of the pairs (kind, least)."""
        return self._steps

    @property
    def text(self):
        """The texts of the steps, one behind another."""
        if not self._steps:
            return "-"
        return "; ".join([f"{kind} {digits_of(least)}" for kind, least in self._steps])

    @property
    def script(self):
        """The Script of the steps that are done on each County by itself."""
        return self._script

    @property
    def holds(self):
        """What is asked of the whole country: pairs (form, least)."""
        return self._holds

    def __len__(self):
        return len(self._steps)

    def __getitem__(self, at):
        if at < 0 or at >= len(self._steps):
            raise NoPlace(at)
        return self._steps[at]

    def __iter__(self):
        raise TypeError("a Plan can not be gone through: take its steps")

    def __call__(self, country):
        """The tuple of what is shown of each County, those without towns left out."""
        left = shown(country)
        for kind, least in self._steps:
            if kind != "country":
                step = Step(kind, least)
                left = shown([step(county) for county in left])
            elif rows_of(left) < least:
                left = ()
        return left

    def within(self, other):
        """Whether the other Plan shows, of every COUNTRY, each town that this one shows."""
        return self._script.within(other.script) and loose_hold(self, other) is None

    def __eq__(self, other):
        return isinstance(other, Plan) and self._script == other._script and self._holds == other._holds

    def __rshift__(self, other):
        if not isinstance(other, Plan):
            return NotImplemented
        return Plan(self._steps + other.steps)

    def __mul__(self, other):
        if not isinstance(other, int):
            return NotImplemented
        # The fourth time nothing goes that the third time has left.
        return Plan(self._steps * min(other, 3))


def step_in(text):
    """The pair (kind, least) with this text."""
    kind, _, word = text.partition(" ")
    least = number_in(word)
    if kind not in KINDS or least is None or least < 1:
        raise BadText()
    return kind, least


def script_ahead(steps):
    """The Script of those of these steps that are done on each County by itself."""
    return Script([Step(kind, least) for kind, least in steps if kind != "country"])


def holds_of(steps, script):
    """The pairs (form, least) of the "country" steps that are not idle."""
    pairs = [(script_ahead(steps[:place]).form, least)
             for place, (kind, least) in enumerate(steps) if kind == "country"]
    return tuple([pair for place, pair in enumerate(pairs) if not is_idle(pairs, place, script)])


def is_idle(pairs, place, script):
    """Whether the "country" step of this pair asks nothing that is not asked besides."""
    form, least = pairs[place]
    if any([later >= least for _, later in pairs[place + 1:]]):
        return True
    if any([own == form and earlier > least for own, earlier in pairs[:place]]):
        return True
    return floor_behind(script, form) >= least


def floor_behind(script, form):
    """How many rows of a county the Script with this FORM leaves, if the other one behind it shows any."""
    return script.floor(script_of(form).least)


def rows_of(country):
    """How many rows all Counties have together."""
    return sum([county.rows for county in country])


def loose_hold(plan, other):
    """A hold of the other Plan that does not follow from what this one asks; None if there is none."""
    for form, least in other.holds:
        if floor_behind(plan.script, form) < least and not holds_more(plan, form, least):
            return form, least
    return None


def holds_more(plan, form, least):
    """Whether a hold of the Plan asks as many rows of what no more is shown of."""
    asked = script_of(form)
    return any([number >= least and script_of(own).within(asked) for own, number in plan.holds])


def unmet(plan, country):
    """The numbers of the holds that say more than the COUNTRY has."""
    return tuple([place for place, (form, least) in enumerate(plan.holds) if rows_shown(form, country) < least])


def rows_shown(form, country):
    """How many rows the Script with this FORM shows of all Counties together."""
    script = script_of(form)
    return rows_of(script.table(country))


def parting_country(plan, other):
    """A COUNTRY of which the Plans show unlike tuples; None if they are alike."""
    county = parting_county(plan.script, other.script)
    if county is not None:
        # With one great town all holds are met, so that just the Scripts decide.
        return county, County(((greatest_number(plan, other), 1),))
    hold = loose_hold(plan, other)
    if hold is not None:
        return country_below(plan, hold[0], hold[1])
    hold = loose_hold(other, plan)
    if hold is not None:
        return country_below(other, hold[0], hold[1])
    return None


def greatest_number(plan, other):
    """A number that no number of a step of these Plans is above."""
    return max([1, *[least for _, least in plan.steps + other.steps]])


def country_below(plan, form, least):
    """A COUNTRY of which the Plan shows something, but the Script with this FORM fewer rows than least.

    No hold of the Plan asks for that; its Script is within the one with this FORM.
    """
    asked = script_of(form)
    country = (last_county(plan, asked, least),)
    for own, number in plan.holds:
        rows = number - rows_shown(own, country)
        if rows > 0:
            country = country + unseen_by(asked, script_of(own), rows)
    return country


def last_county(plan, asked, least):
    """A County of which the Plan's Script shows a town, and the one that is asked less than least rows."""
    # Holds that ask nothing of more than the one that is asked shows say less than least.
    fewer = [number for own, number in plan.holds if number < least and script_of(own).within(asked)]
    town = max([plan.script.floor(asked.least), *fewer])
    return town_over(town, asked.least - 1, plan.script.floor(1))


def unseen_by(asked, script, rows):
    """Counties of which the one that is asked shows nothing, and the Script so many rows together.

    The Script is not within the one that is asked.
    """
    if script.least < asked.least:
        towns = enough(max(script.floor(1), rows), script.least)
        return (County(((script.least, towns),)),)
    size, floor = [pair for pair in asked.floors if script.floor(pair[0]) < pair[1]][0]
    county = town_over(floor - 1, size - 1, script.floor(1))
    return (county,) * enough(rows, floor - 1)
