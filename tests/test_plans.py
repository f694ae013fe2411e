"""[12], and [2] and [3] of the same."""

import functools
import itertools
import random
import unittest

from helper import Case
from models import GREAT, bags, county_of, left_by

from smalltowns import plans
from smalltowns.counties import County
from smalltowns.errors import BadStep, BadText, NoPlace
from smalltowns.forms import script_of
from smalltowns.plans import Plan, parting_country, unmet
from smalltowns.scripts import Script
from smalltowns.steps import Step

KINDS = ("town", "county", "country")


def left_of(steps, country):
    """What these steps leave of each bag of the country, one step after another."""
    left = [list(bag) for bag in country]
    for kind, least in steps:
        if kind != "country":
            left = [left_by([(kind, least)], bag) for bag in left]
        elif sum(sum(bag) for bag in left) < least:
            left = [[] for _ in left]
    return left


def told_of(steps, country):
    """What is shown of this tuple of Counties, by the steps: RUNS, those without towns left out."""
    left = left_of(steps, [[size for size, many in county.runs for _ in range(many)] for county in country])
    return tuple([county_of(bag).runs for bag in left if bag])


def runs_of(country):
    """The RUNS of these Counties."""
    return tuple([county.runs for county in country])


@functools.lru_cache(maxsize=None)
def countries(rows):
    """All small countries of so many rows at most, whatever their order: tuples of bags."""
    some = sorted([bag for bag in bags(rows, rows) if bag])
    found = []

    def go_on(ahead, start, left):
        found.append(tuple(ahead))
        for place in range(start, len(some)):
            if sum(some[place]) <= left:
                go_on(ahead + [some[place]], place, left - sum(some[place]))

    go_on([], 0, rows)
    return tuple(found)


def plans_to(most, many):
    """The steps of all Plans of at most so many steps with numbers from 1 to most."""
    steps = list(itertools.product(KINDS, range(1, most + 1)))
    return [own for length in range(many + 1) for own in itertools.product(steps, repeat=length)]


@functools.lru_cache(maxsize=None)
def looks(steps, rows):
    """The sizes that are shown of each County of all small countries."""
    return tuple([tuple([frozenset(bag) for bag in left_of(steps, country)]) for country in countries(rows)])


def inside(one, other):
    """Whether nothing is shown in these looks that is not shown in the other ones."""
    return all(here <= there for ones, others in zip(one, other) for here, there in zip(ones, others))


def drawn_steps(rng, most, many):
    """Drawn steps with numbers to most."""
    return tuple([(rng.choice(KINDS), rng.randint(1, most)) for _ in range(rng.randint(0, many))])


SMALL = plans_to(3, 2)
ROWS = 7


class Examples(Case):
    """What DOC.md shows in [12]."""

    def setUp(self):
        self.plan = Plan.of("county 9; country 20; town 3")
        self.twice = Plan.of("country 30; county 9; country 20; county 9")
        self.few = (County.of("9"), County.of("2 8"), County.of("5"))
        self.many = (County.of("9x3"), County.of("2 8"))

    def test_holds(self):
        self.same((Plan.of("country 30; country 20").holds, Plan.of("country 20; country 20").holds,
                   Plan.of("country 30; country 20") == Plan.of("country 30")),
                  (((((1, 1),), 30),), ((((1, 1),), 20),), True))
        self.same((self.plan.script.text, self.plan.holds, self.twice.holds,
                   Plan.of("county 100; country 50; town 5").holds, Plan.of("county 9; country 20; country 25").holds),
                  ("county 9; town 3", ((((9, 9),), 20),), ((((1, 1),), 30), (((9, 9),), 20)), (), ((((9, 9),), 25),)))

    def test_what_is_shown(self):
        plan, few, many = self.plan, self.few, self.many
        self.same((plan(few), [own.text for own in plan(many)], unmet(plan, few), unmet(plan, many),
                   unmet(self.twice, few), plan(())), ((), ["9x3", "8"], (0,), (), (0, 1), ()))

    def test_beside_others(self):
        plan = self.plan
        self.same((plan == Plan.of("country 10; county 9; country 20; town 3"),
                   plan == Plan.of("county 9; town 3; country 20"), plan.within(Plan.of("country 20; town 3")),
                   Plan.of("country 20; town 3").within(plan)), (True, False, True, False))
        self.same((parting_country(plan, Plan.of("county 9; town 2; town 3; country 20; country 3")) is None,
                   parting_country(plan, plan), (plan * 0).text, (plan * 1).text, plan * 3 == plan * 10 ** 30),
                  (False, None, "-", "county 9; country 20; town 3", True))

    def test_steps(self):
        plan = self.plan
        self.same(((plan >> Plan.of("country 2")).text, len(plan), plan[1]),
                  ("county 9; country 20; town 3; country 2", 3, ("country", 20)))
        self.refused(BadStep, {"given": ("land", 3)}, Plan, (("town", 2), ("land", 3)))


class Making(Case):
    def test_no_steps(self):
        for plan in (Plan(), Plan(()), Plan([]), Plan(steps=()), Plan.of("-"), Plan.of(text="-")):
            self.same((plan.steps, plan.text, len(plan), plan.script.text, plan.holds), ((), "-", 0, "-", ()))
            self.same(runs_of(plan((County.of("1"), County(), County.of("2x2")))), (((1, 1),), ((2, 2),)))

    def test_steps_and_text(self):
        for steps in SMALL:
            plan = Plan(steps)
            self.same((plan.steps, len(plan)), (steps, len(steps)))
            text = "; ".join([f"{kind} {least}" for kind, least in steps]) or "-"
            self.same((plan.text, Plan.of(text).steps), (text, steps))
            self.same(plan.script.text, "; ".join([f"{kind} {least}" for kind, least in steps if kind != "country"]) or "-")
            self.assertIsInstance(plan.script, Script)

    def test_forty_steps(self):
        rng = random.Random(1)
        steps = tuple([(rng.choice(KINDS), rng.choice((1, 7, GREAT, 10 ** 40))) for _ in range(40)])
        plan = Plan(list(steps))
        self.same((plan.steps, len(plan), Plan.of(plan.text).steps), (steps, 40, steps))
        self.same([plan[place] for place in range(40)], list(steps))
        self.assertEqual(Plan.of(plan.text), plan)

    def test_texts_of_none(self):
        for text in ("", " ", "--", "- ", "-; -", "town", "town ", "town 0", "town -1", "town +1", "town 05", "town 5 ",
                     " town 5", "town  5", "town 5;", "town 5; ", "town 5;county 10", "town 5 ; county 10",
                     "town 5;  county 10", "town 5; -", "land 3", "Town 5", "country", "country 0", "country 05",
                     "country 2; land 3", "town 5, county 10", "town5", "country 1.5", "town 5\n", "\ntown 5",
                     "country 5\ntown 3", "(town 2) x 3", "town x", "countr 5", "countryy 5"):
            self.refused(BadText, {}, Plan.of, text)
            self.refused(BadText, {}, Plan.of, text=text)

    def test_wrong_pairs(self):
        for steps, given in (((("land", 3),), ("land", 3)), ((("town", 0),), ("town", 0)), ((["county", -1],), ("county", -1)),
                             ((("country", 0), ("land", 3)), ("country", 0)), ([["country", 5], ["", 5], ("town", 0)], ("", 5)),
                             ((("town", 2), ("Town", 0)), ("Town", 0)), ((("country", -GREAT),), ("country", -GREAT))):
            self.refused(BadStep, {"given": given}, Plan, steps)
            self.refused(BadStep, {"given": given}, Plan, steps=steps)

    def test_lists_for_tuples_and_changed_afterwards(self):
        pair = ["town", 2]
        steps = [pair, ("country", 9)]
        plan = Plan(steps)
        pair[1] = 7
        steps.append(("town", 9))
        self.same((plan.steps, plan.text, plan.script.text, plan.holds),
                  ((("town", 2), ("country", 9)), "town 2; country 9", "town 2", ((((1, 2),), 9),)))

    def test_places(self):
        plan = Plan.of("town 2; country 9; county 4")
        self.same((plan[0], plan[2]), (("town", 2), ("county", 4)))
        for place in (3, 4, -1, -3, GREAT, -GREAT):
            self.refused(NoPlace, {"place": place}, lambda: plan[place])
        self.refused(NoPlace, {"place": 0}, lambda: Plan()[0])

    def test_no_iteration(self):
        for plan in (Plan(), Plan.of("town 2; country 9")):
            for go in (iter, list, tuple, sorted, set, enumerate):
                with self.assertRaises(TypeError):
                    go(plan)
            with self.assertRaises(TypeError):
                _, _ = plan
            with self.assertRaises(TypeError):
                for _ in plan:
                    pass

    def test_properties_have_no_setters(self):
        plan = Plan.of("town 2; country 9")
        for name in ("steps", "text", "script", "holds"):
            with self.assertRaises(AttributeError):
                setattr(plan, name, ())


class Shows(Case):
    """Against a plain going through of the steps."""

    def test_small_ones(self):
        for steps in SMALL:
            plan = Plan(steps)
            for country in countries(5):
                told = tuple([county_of(bag) for bag in country])
                self.same(runs_of(plan(told)), told_of(steps, told))

    def test_in_any_order_with_empty_counties(self):
        rng = random.Random(2)
        for _ in range(400):
            steps = drawn_steps(rng, 12, 8)
            country = [county_of(rng.choice(bags(9, 6))) for _ in range(rng.randint(0, 6))]
            before = runs_of(country)
            found = Plan(steps)(country)
            self.assertIsInstance(found, tuple)
            self.same(runs_of(found), told_of(steps, country))
            self.same(runs_of(Plan(steps)(country=tuple(country))), runs_of(found))
            self.same(runs_of(country), before)

    def test_great_numbers(self):
        rng = random.Random(3)
        for _ in range(200):
            steps = drawn_steps(rng, 9, 6)
            country = [county_of(rng.choice(bags(9, 6))) for _ in range(rng.randint(0, 5))]
            great = [County([(size * GREAT, many) for size, many in county.runs]) for county in country]
            # A least of 1 asks nothing, multiplied or not.
            plan = Plan([(kind, least * GREAT if least > 1 else 1) for kind, least in steps])
            self.same(runs_of(plan(great)),
                      tuple([tuple([(size * GREAT, many) for size, many in runs]) for runs in told_of(steps, country)]))
        many = (County(((10 ** 40, 10 ** 40),)),) * 40
        self.same(len(Plan.of(f"country {4 * 10 ** 81}")(many)), 40)
        self.same(len(Plan.of(f"country {4 * 10 ** 81 + 1}")(many)), 0)

    def test_unmet(self):
        rng = random.Random(4)
        for _ in range(400):
            plan = Plan(drawn_steps(rng, 12, 8))
            country = [county_of(rng.choice(bags(9, 6))) for _ in range(rng.randint(0, 4))]
            wanted = []
            for number, (form, least) in enumerate(plan.holds):
                script = script_of(form)
                if sum([script(county).rows for county in country]) < least:
                    wanted.append(number)
            self.same(unmet(plan, country), tuple(wanted))
            self.same(unmet(country=tuple(country), plan=plan), tuple(wanted))

    def test_holds_and_script_tell_what_is_shown(self):
        for steps in SMALL + [drawn_steps(random.Random(seed), 6, 7) for seed in range(300)]:
            plan = Plan(steps)
            for country in countries(5):
                told = [county_of(bag) for bag in country]
                alone = runs_of(plan.script.table(told))
                self.same(runs_of(plan(told)), () if unmet(plan, told) else alone)


class Holds(Case):
    def test_as_the_words_say(self):
        for seed in range(1500):
            steps = drawn_steps(random.Random(seed), 8, 9)
            pairs = [(Script([Step(*step) for step in steps[:place] if step[0] != "country"]).form, least)
                     for place, (kind, least) in enumerate(steps) if kind == "country"]
            whole = Script([Step(*step) for step in steps if step[0] != "country"])
            wanted = []
            for place, (form, least) in enumerate(pairs):
                later = [number for _, number in pairs[place + 1:] if number >= least]
                same = [number for own, number in pairs[:place] if own == form and number > least]
                if not later and not same and whole.floor(script_of(form).least) < least:
                    wanted.append((form, least))
            self.same(Plan(steps).holds, tuple(wanted))

    def test_they_go_down(self):
        for seed in range(1500):
            holds = Plan(drawn_steps(random.Random(seed), 9, 12)).holds
            for (form, least), (other, less) in zip(holds, holds[1:]):
                self.assertGreater(least, less)
                self.assertNotEqual(form, other)
                self.assertTrue(script_of(other).within(script_of(form)))


class Pairs(Case):
    """Against all small countries."""

    def test_alike(self):
        for one, other in itertools.product(SMALL, repeat=2):
            plan, its = Plan(one), Plan(other)
            alike = looks(one, ROWS) == looks(other, ROWS)
            self.same((plan == its, plan != its), (alike, not alike))
            self.same(plan.script == its.script and plan.holds == its.holds, alike)

    def test_within(self):
        for one, other in itertools.product(SMALL, repeat=2):
            self.same(Plan(one).within(Plan(other)), inside(looks(one, ROWS), looks(other, ROWS)))
            self.same(Plan(one).within(other=Plan(other)), Plan(one).within(Plan(other)))

    def check_parted(self, one, other):
        """The country that parts two Plans does part them, and there is one exactly if they are not alike."""
        found = parting_country(Plan(one), Plan(other))
        self.same(found is None, Plan(one) == Plan(other))
        if found is not None:
            self.assertIsInstance(found, tuple)
            self.assertEqual([county for county in found if not isinstance(county, County)], [])
            self.assertNotEqual(runs_of(Plan(one)(found)), runs_of(Plan(other)(found)))
            again = parting_country(other=Plan(other), plan=Plan(one))
            self.same(runs_of(again), runs_of(found))
        return found

    def test_parting(self):
        for one, other in itertools.product(SMALL, repeat=2):
            found = self.check_parted(one, other)
            if found is not None:
                self.assertNotEqual(told_of(one, found), told_of(other, found))

    def test_longer_ones(self):
        rng = random.Random(5)
        alike = 0
        for _ in range(3000):
            one = drawn_steps(rng, 5, 6)
            # Now and then nearly the same one.
            other = drawn_steps(rng, 5, 6) if rng.random() < 0.3 else tuple(
                [step for step in one if rng.random() < 0.8] + [rng.choice(one or (("country", 3),))])
            found = self.check_parted(one, other)
            alike += found is None
            if found is None:
                self.assertEqual(looks(one, 5), looks(other, 5))
            else:
                self.assertNotEqual(told_of(one, found), told_of(other, found))
            if Plan(one).within(Plan(other)):
                self.assertTrue(inside(looks(one, 5), looks(other, 5)))
        self.assertGreater(alike, 200)

    def test_not_within_is_seen(self):
        # One behind the other is alike to the first exactly where it shows no town that this one hides.
        rng = random.Random(6)
        for _ in range(300):
            one, other = drawn_steps(rng, 4, 4), drawn_steps(rng, 4, 4)
            if not Plan(one).within(Plan(other)):
                some = countries(9)
                both = [(left_of(one, country), left_of(other, country)) for country in some]
                self.assertTrue(any(set(here) - set(there) for ones, others in both
                                    for here, there in zip(ones, others)), (one, other))

    def test_parting_where_only_holds_differ(self):
        rng = random.Random(10)
        for number in range(3000):
            # Mostly later steps ask for more than earlier ones, so that each hold stands behind another Script.
            most = rng.choice((4, 8, 30))
            numbers = sorted([rng.randint(1, most) for _ in range(rng.randint(1, 5))])
            bare = [(rng.choice(("town", "county")), least) for least in numbers]
            if number & 1:
                # Counties lose less and less, as in plain forms.
                counties = [most + least for kind, least in bare if kind == "county"]
                bare = [(kind, least if kind == "town" else counties.pop()) for kind, least in bare]
            both = []
            for _ in range(2):
                steps = list(bare)
                for least in sorted([rng.randint(1, 3 * most) for _ in range(rng.randint(0, 4))]):
                    steps.insert(rng.randint(0, len(steps)), ("country", least))
                both.append(tuple(steps))
            found = self.check_parted(*both)
            if found is not None:
                self.assertNotEqual(told_of(both[0], found), told_of(both[1], found))

    def test_parting_at_the_bounds(self):
        rng = random.Random(7)
        for _ in range(150):
            one = tuple([(rng.choice(KINDS), rng.randint(1, rng.choice((5, 40, 1000)))) for _ in range(40)])
            other = list(one)
            for _ in range(rng.randint(1, 3)):
                other[rng.randrange(40)] = (rng.choice(KINDS), rng.randint(1, 1000))
            self.check_parted(one, tuple(other))

    def test_counties_that_one_hold_counts_and_the_other_does_not(self):
        for one, other in (("county 9; town 2; country 20; county 5", "county 9; town 2; county 5; country 19"),
                           ("town 2; country 20; town 3; county 9", "town 2; town 3; country 15; county 9"),
                           ("country 21; county 4; country 20; town 3", "county 4; town 3; country 19"),
                           ("county 30; town 3; country 90; town 4; country 50; county 9", "county 30; town 4; county 9; "
                            "country 49")):
            for pair in ((one, other), (other, one)):
                self.check_parted(*[Plan.of(text).steps for text in pair])

    def test_many_counties_are_needed(self):
        # Only many Counties of one row have a thousand rows of which county 2 shows nothing.
        one, other = Plan.of("country 1000; county 2"), Plan.of("county 2; country 999")
        found = parting_country(one, other)
        self.assertNotEqual(runs_of(one(found)), runs_of(other(found)))
        self.assertTrue(one(found) and not other(found))
        self.assertLessEqual(sum([county.rows for county in found if county.rows > 1]), 998)

    def test_equals_nothing_else(self):
        plan = Plan.of("town 2")
        for thing in (Script.of("town 2"), Step.of("town 2"), "town 2", (("town", 2),), None, 0, [], object()):
            self.same((plan == thing, thing == plan, plan != thing), (False, False, True))


class Together(Case):
    def test_behind_one_another(self):
        for one, other in itertools.product(plans_to(3, 1), SMALL):
            both = Plan(one) >> Plan(other)
            self.same(both.steps, one + other)
            for country in countries(4):
                told = tuple([county_of(bag) for bag in country])
                self.same(runs_of(both(told)), runs_of(Plan(other)(Plan(one)(told))))

    def test_again_and_again(self):
        rng = random.Random(8)
        for steps in SMALL + [drawn_steps(rng, 6, 6) for _ in range(300)]:
            plan = Plan(steps)
            for many in range(6):
                found = plan * many
                self.assertIsInstance(found, Plan)
                self.assertEqual(found, Plan(steps * many))
                self.assertLessEqual(len(found), 3 * len(plan))
            self.same((plan * 0).steps, ())
            self.same((plan * 1).text, plan.text)
            for many in (4, 5, 10 ** 40):
                self.assertEqual(plan * many, plan * 3)
                self.same((plan * many).text, (plan * 3).text)
                self.assertLessEqual(len(plan * many), 3 * len(plan))

    def test_again_by_what_is_shown(self):
        rng = random.Random(9)
        for _ in range(200):
            steps = drawn_steps(rng, 6, 5)
            plan = Plan(steps)
            for many in (0, 1, 2, 3, 4, 7):
                self.assertEqual(looks((plan * many).steps, 5), looks(steps * many, 5))

    def test_the_third_time_can_hide_more(self):
        found = [seed for seed in range(4000)
                 if (lambda plan: plan * 3 != plan * 2)(Plan(drawn_steps(random.Random(seed), 12, 6)))]
        self.assertGreater(len(found), 0)

    def test_behind_nothing_else(self):
        for thing in (Script.of("town 2"), Step.of("town 2"), "town 2", (("town", 2),)):
            with self.assertRaises(TypeError):
                Plan.of("town 2") >> thing

    def test_nothing_changes(self):
        one, other = Plan.of("town 2; country 9"), Plan.of("county 3")
        _, _, _, _ = one >> other, one * 3, one.within(other), parting_country(one, other)
        self.same((one.steps, other.steps, one.holds), ((("town", 2), ("country", 9)), (("county", 3),), ((((1, 2),), 9),)))


class Interface(Case):
    def test_they_are_defined_in_the_file(self):
        for name in ("Plan", "unmet", "parting_country"):
            self.assertEqual(vars(plans)[name].__module__, "smalltowns.plans")
        for name in ("of", "steps", "text", "script", "holds", "within", "__len__", "__getitem__", "__iter__", "__call__",
                     "__eq__", "__rshift__", "__mul__"):
            self.assertIn(name, vars(Plan))


if __name__ == "__main__":
    unittest.main()
