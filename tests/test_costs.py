"""[10], and [2] of the same."""

import functools
import itertools
import unittest

from helper import Case
from models import (GREAT, bags, county_of, floor_by_steps, forms_to, grown, least_by_steps, left_by, looks, rules_of,
                    rules_to, script_by)

from smalltowns import costs
from smalltowns.costs import needless, new_town, pillars, steps_needed, taken_by, town_to_add, towns_to_lose
from smalltowns.counties import County
from smalltowns.errors import NoTown
from smalltowns.forms import script_of
from smalltowns.scripts import Script

SCRIPTS = tuple([script_of(form) for form in forms_to(5)])
SOME = bags(8, 6)


def cases():
    """Each Script with numbers to 5 and each small county: the Script, its rules and the bag."""
    for script in SCRIPTS:
        rules = rules_of(script)
        for bag in SOME:
            yield script, rules, bag


def great_county(bag):
    """The County of these towns, all multiplied."""
    return County([(town * GREAT, 1) for town in bag])


def without(bag, town):
    """The towns without this one."""
    left = list(bag)
    left.remove(town)
    return left


@functools.lru_cache(maxsize=None)
def stairs_of(rules):
    """What the steps ask of all counties."""
    return tuple([floor_by_steps(rules, size) for size in range(1, least_by_steps(rules) + 1)])


class Examples(Case):
    """What DOC.md shows in [10]."""

    def setUp(self):
        self.first, self.other = Script.of("county 10; town 5"), Script.of("town 5; county 10")
        self.county = County.of("1 4 5")

    def test_steps(self):
        self.same((needless(Script.of("county 3; town 2; county 3; town 1")), needless(self.first),
                   steps_needed(Script.of("county 12; town 3; county 8; town 5")),
                   steps_needed(Script.of("town 5; county 5")), steps_needed(Script())),
                  ((0, 3), (), (2, 2), (1, 0), (0, 0)))

    def test_taken_by(self):
        self.same(([taken_by(self.first, self.county, size) for size in (1, 4, 5)],
                   [taken_by(self.other, self.county, size) for size in (1, 4, 5)]), ([1, 1, None], [0, 0, 1]))
        self.refused(NoTown, {"size": 3}, taken_by, self.first, self.county, 3)

    def test_new_town_and_pillars(self):
        first, other = self.first, self.other
        self.same((new_town(first, self.county), new_town(first, County.of("1 4")), new_town(other, County.of("5")),
                   new_town(Script(), County()), pillars(first, self.county), pillars(other, County.of("2 5x2")),
                   pillars(first, County.of("4 6x2"))), (5, 5, 5, 1, (1, 4), (5,), ()))

    def test_towns_to_lose_and_to_add(self):
        first, other, county = self.first, self.other, self.county
        self.same((towns_to_lose(first, county, 5), towns_to_lose(first, County.of("1x9 4 5"), 5),
                   towns_to_lose(other, County.of("5x3 9"), 9), towns_to_lose(other, County.of("5 10"), 10),
                   towns_to_lose(first, county, 4)), (1, 6, 3, None, 0))
        self.same((town_to_add(first, County.of("3 5"), 5), town_to_add(other, County.of("3 5"), 5),
                   town_to_add(other, County.of("3 7"), 7), town_to_add(first, county, 5),
                   town_to_add(first, county, 4)), (2, 5, 5, 0, None))


class Steps(Case):
    def test_needless(self):
        for rules in rules_to(3, 3):
            script = script_by(rules)
            by_stairs = tuple([place for place in range(len(rules))
                               if stairs_of(rules[:place] + rules[place + 1:]) == stairs_of(rules)])
            by_script = tuple([place for place in range(len(rules))
                               if Script(script.steps[:place] + script.steps[place + 1:]) == script])
            self.same((needless(script), by_script), (by_stairs, by_stairs))
            # A least of 1 asks nothing, but multiplied it does.
            if ("town", 1) not in rules and ("county", 1) not in rules:
                self.same(needless(grown(script)), by_stairs)

    def test_needless_by_what_is_shown(self):
        for rules in rules_to(3, 2):
            seen = looks(rules, SOME)
            wanted = tuple([place for place in range(len(rules))
                            if looks(rules[:place] + rules[place + 1:], SOME) == seen])
            self.same(needless(script_by(rules)), wanted)

    def test_needless_of_forty_steps(self):
        script = Script.of("; ".join([f"town {size}; county {200 - size}" for size in range(1, 21)]))
        # Only town 1 does nothing.
        self.same((len(script), needless(script)), (40, (0,)))
        self.same(needless(Script.of("; ".join(["town 5", "county 9"] * 20))), tuple(range(40)))

    def test_steps_needed(self):
        fewest = {}
        for rules in rules_to(4, 3) + [rules_of(script) for script in SCRIPTS]:
            kinds = [kind for kind, _ in rules]
            towns, counties = fewest.get(stairs_of(tuple(rules)), (99, 99))
            fewest[stairs_of(tuple(rules))] = (min(towns, kinds.count("town")), min(counties, kinds.count("county")))
        for rules in rules_to(4, 3):
            script = script_by(rules)
            self.same(steps_needed(script), fewest[stairs_of(rules)])
            self.same(sum(steps_needed(script)), len(script.plain))
        for script in SCRIPTS:
            self.same(steps_needed(grown(script)), steps_needed(script))

    def test_great_numbers(self):
        script = script_by([("county", 9 * GREAT), ("town", GREAT), ("county", 9 * GREAT - 1), ("county", 9 * GREAT)])
        self.same((needless(script), steps_needed(script)), ((0, 2), (1, 1)))


class TakenBy(Case):
    def test_against_the_steps(self):
        for rules in rules_to(4, 3):
            script = script_by(rules)
            for bag in ((1,), (1, 2, 4), (2, 2, 3), (3, 3, 4), (1, 1, 1, 5)):
                for size in sorted(set(bag)):
                    there = [size in left_by(rules[:many], bag) for many in range(len(rules) + 1)]
                    wanted = there.index(False) - 1 if False in there else None
                    self.same(taken_by(script, county_of(bag), size), wanted)
                    if rules and min(least for _, least in rules) > 1:
                        self.same(taken_by(grown(script), great_county(bag), size * GREAT), wanted)

    def test_no_town(self):
        county = County.of("1 4x3 5")
        for script in (Script(), Script.of("town 9"), Script.of("county 99; town 2")):
            for size in (2, 3, 6, 0, -1, GREAT):
                self.refused(NoTown, {"size": size}, taken_by, script, county, size)
                self.refused(NoTown, {"size": size}, taken_by, size=size, county=county, script=script)


class Towns(Case):
    """Against the Counties that come of towns more or fewer."""

    def test_new_town(self):
        for script, rules, bag in cases():
            wanted = min(town for town in range(1, 10) if town in left_by(rules, bag + (town,))
                         and left_by(rules, bag + (town,)).count(town) == bag.count(town) + 1)
            self.same(new_town(script, county_of(bag)), wanted)
            # Where no town is too small, one row is enough, multiplied or not.
            if script.least > 1 or wanted > 1:
                self.same(new_town(grown(script), great_county(bag)), wanted * GREAT)

    def test_pillars(self):
        for script, rules, bag in cases():
            seen = left_by(rules, bag)
            wanted = []
            for town in sorted(set(bag)):
                others = without(seen, town) if town in seen else seen
                if not all(other in left_by(rules, without(bag, town)) for other in others):
                    wanted.append(town)
            self.same(pillars(script, county_of(bag)), tuple(wanted))
            self.same(pillars(grown(script), great_county(bag)), tuple([town * GREAT for town in wanted]))

    def test_towns_to_lose(self):
        for script, rules, bag in cases():
            for town in sorted(set(bag)):
                others = without(bag, town)
                wanted = None
                for many in range(len(others) + 1):
                    if any(town not in left_by(rules, list(kept) + [town])
                           for kept in itertools.combinations(others, len(others) - many)):
                        wanted = many
                        break
                self.same(towns_to_lose(script, county_of(bag), town), wanted)
                self.same(towns_to_lose(grown(script), great_county(bag), town * GREAT), wanted)

    def test_town_to_add(self):
        more = sorted(bags(8, 8), key=sum)
        for script, rules, bag in cases():
            for town in sorted(set(bag)):
                rows = [sum(new) for new in more if town in left_by(rules, bag + new)]
                wanted = rows[0] if rows else None
                self.same(town_to_add(script, county_of(bag), town), wanted)
                if wanted:
                    self.assertIn(town, left_by(rules, bag + (wanted,)))
                great = town_to_add(grown(script), great_county(bag), town * GREAT)
                self.same(great, None if wanted is None else wanted * GREAT)

    def test_great_numbers_of_towns(self):
        script = Script.of(f"county {10 ** 40}; town 2; county 4")
        county = County(((1, 10 ** 40), (2, 10), (5, 1)))
        # 25 rows are more than is asked of all: twenty of them are those of the ten greatest others.
        self.same(towns_to_lose(script, county, 5), 10 + 6)
        # Behind town 2 there must be four rows.
        self.same(towns_to_lose(script, County(((1, 10 ** 40), (2, 1), (3, 1))), 3), 1)
        self.same(towns_to_lose(script, County(((1, 10 ** 40), (2, GREAT), (3, 1))), 3), GREAT)
        self.same(new_town(script, County(((1, 7), (3, 2)))), 10 ** 40 - 13)
        self.same(town_to_add(script, County(((1, 7), (3, 2))), 3), 10 ** 40 - 13)
        self.same(pillars(script, County(((1, 10 ** 40 - 6), (3, 2)))), (1, 3))

    def test_no_town(self):
        county = County.of("1 4x3 5")
        for call in (towns_to_lose, town_to_add):
            for script in (Script(), Script.of("town 9"), Script.of("county 99; town 2")):
                for size in (2, 3, 6, 0, -1, GREAT):
                    self.refused(NoTown, {"size": size}, call, script, county, size)
                    self.refused(NoTown, {"size": size}, call, size=size, county=county, script=script)

    def test_no_towns_at_all(self):
        self.same((new_town(Script.of("county 10; town 5"), County()), pillars(Script(), County())), (10, ()))


class Interface(Case):
    def test_they_are_defined_in_the_file(self):
        for name in ("needless", "steps_needed", "taken_by", "new_town", "pillars", "towns_to_lose", "town_to_add"):
            self.assertEqual(vars(costs)[name].__module__, "smalltowns.costs")


if __name__ == "__main__":
    unittest.main()
