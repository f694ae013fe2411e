"""[13], and [2] and [3] of the same."""

import itertools
import random
import unittest

from helper import Case
from models import GREAT, bags, county_of, forms_to, grown, left_by, looks, rules_of, script_by

from smalltowns import rows
from smalltowns.counties import County
from smalltowns.forms import script_of
from smalltowns.rows import (all_alike, always, in_row, least_order, most_order, outcomes, shortened, sometimes,
                             unlike_pair)
from smalltowns.scripts import Script

SCRIPTS = tuple([script_of(form) for form in forms_to(4)])
SOME = bags(9, 5)


def rules_in_row(scripts, order):
    """All steps of these Scripts in this order."""
    return [rule for number in order for rule in rules_of(scripts[number])]


def looks_of(scripts, order):
    """What is shown of small counties in this order."""
    return looks(rules_in_row(scripts, order), SOME)


def inside(one, other):
    """Whether nothing is shown in these looks that is not shown in the other ones."""
    return all(here <= there for here, there in zip(one, other))


def groups(seed, many, most=5):
    """Drawn tuples of one to so many Scripts with small numbers."""
    rng = random.Random(seed)
    for _ in range(many):
        yield tuple([rng.choice(SCRIPTS) for _ in range(rng.randint(1, most))])


def all_groups():
    """All pairs of Scripts, and drawn tuples of more."""
    return [(one,) for one in SCRIPTS] + list(itertools.product(SCRIPTS, repeat=2)) + list(groups(1, 150))


def multiplied(scripts):
    """The Scripts with all their numbers multiplied."""
    return tuple([grown(script) for script in scripts])


class Examples(Case):
    """What DOC.md shows in [13]."""

    def setUp(self):
        self.towns, self.counties, self.late = Script.of("town 5"), Script.of("county 10"), Script.of("county 8")

    def test_in_row(self):
        both = (self.towns, self.counties)
        self.same((in_row(both, (1, 0)).text, in_row(both, (1, 0, 1)).text, in_row(both, ()).text),
                  ("county 10; town 5", "town 5; county 10", "-"))

    def test_shortened(self):
        both = (self.towns, self.counties)
        self.same((shortened(both, (1, 0, 1, 0)), shortened(both, (1, 0, 0)),
                   shortened((self.counties, self.late), (1, 0, 1))), ((0, 1), (1, 0), (0,)))

    def test_outcomes(self):
        towns, counties, late = self.towns, self.counties, self.late
        self.same((outcomes((towns, counties)), all_alike((counties, late)), unlike_pair((counties, late, towns))),
                  ([((0, 1), "town 5; county 10"), ((1, 0), "county 10; town 5")], True, (0, 2)))

    def test_most_and_least(self):
        towns, counties, late = self.towns, self.counties, self.late
        self.same((most_order((towns, counties, late)), least_order((towns, counties, late)),
                   most_order((Script.of("county 6; town 2"), Script.of("county 4; town 3")))),
                  ((1, 2, 0), (0, 1, 2), (0, 1)))

    def test_always_and_sometimes(self):
        both = (self.towns, self.counties)
        self.same((always(both, County.of("1 4 5")).text, sometimes(both, County.of("1 4 5")).text,
                   always(both, County.of("4 5x2")).text), ("-", "5", "5x2"))


class InRow(Case):
    def test_against_the_steps(self):
        rng = random.Random(2)
        for scripts in groups(3, 300):
            order = [rng.randrange(len(scripts)) for _ in range(rng.randint(0, 7))]
            found = in_row(scripts, order)
            self.same(found.text, found.plain.text)
            self.assertEqual(looks(rules_of(found), SOME), looks_of(scripts, order))
            self.same(in_row(order=tuple(order), scripts=list(scripts)).text, found.text)

    def test_none(self):
        for scripts in groups(4, 20):
            self.same((in_row(scripts, ()).text, in_row(scripts, []).text), ("-", "-"))

    def test_forty_numbers(self):
        rng = random.Random(5)
        for scripts in groups(6, 40):
            order = tuple([rng.randrange(len(scripts)) for _ in range(40)])
            self.assertEqual(in_row(scripts, order), script_by(rules_in_row(scripts, order)))
            self.assertEqual(looks(rules_of(in_row(scripts, order)), SOME), looks_of(scripts, order))

    def test_five_scripts_of_forty_steps(self):
        rng = random.Random(7)
        scripts = [script_by([(rng.choice(("town", "county")), rng.randint(1, 10 ** 40)) for _ in range(40)])
                   for _ in range(5)]
        order = [rng.randrange(5) for _ in range(40)]
        whole = Script()
        for number in order:
            whole = whole >> scripts[number]
        self.same(in_row(scripts, order).text, whole.plain.text)

    def test_great_numbers(self):
        for scripts in groups(8, 100):
            order = tuple(range(len(scripts))) * 2
            self.same(in_row(multiplied(scripts), order).text, grown(in_row(scripts, order)).text)


class Shortened(Case):
    def check(self, scripts, order):
        """Against all ways to leave numbers out."""
        seen = looks_of(scripts, order)
        parts = {tuple([order[place] for place in kept])
                 for many in range(len(order) + 1) for kept in itertools.combinations(range(len(order)), many)}
        alike = [(len(part), part) for part in parts if looks_of(scripts, part) == seen]
        wanted = min(alike)[1]
        found = shortened(scripts, order)
        self.same(found, wanted)
        self.same(shortened(order=list(order), scripts=list(scripts)), wanted)
        self.same(shortened(multiplied(scripts), order), wanted)

    def test_small_ones(self):
        rng = random.Random(9)
        for scripts in groups(10, 120, 3):
            self.check(scripts, tuple([rng.randrange(len(scripts)) for _ in range(rng.randint(0, 6))]))

    def test_ten_numbers(self):
        rng = random.Random(11)
        for scripts in groups(12, 3):
            self.check(scripts, tuple([rng.randrange(len(scripts)) for _ in range(10)]))

    def test_ten_numbers_of_great_scripts(self):
        rng = random.Random(13)
        scripts = [script_by([(rng.choice(("town", "county")), rng.randint(1, 10 ** 40)) for _ in range(40)])
                   for _ in range(5)]
        order = tuple([rng.randrange(5) for _ in range(10)])
        found = shortened(scripts, order)
        self.assertEqual(in_row(scripts, found), in_row(scripts, order))
        self.assertLessEqual(len(found), 10)

    def test_none_and_the_same_again(self):
        towns, counties = Script.of("town 5"), Script.of("county 10")
        self.same((shortened((towns,), ()), shortened((towns,), (0, 0, 0)), shortened((Script(),), (0,))), ((), (0,), ()))
        # Twice can do more than once, three times not more than twice.
        mixed = counties >> towns
        self.same((shortened((mixed,), (0, 0)), shortened((mixed,), (0,) * 10)), ((0, 0), (0, 0)))

    def test_of_as_short_ones_the_least(self):
        one, same = Script.of("county 4; town 2"), Script.of("county 4; town 2; county 1")
        self.same(shortened((one, same), (1, 0, 1, 0)), (0, 0))
        self.same((shortened((one, same), (1,)), shortened((one, same), (1, 0))), ((1,), (1, 0)))
        self.check((one, same), (1, 0, 1, 0))
        self.check((one, same), (1, 0))


class Orders(Case):
    """Against all orders."""

    def test_all(self):
        for scripts in all_groups():
            orders = list(itertools.permutations(range(len(scripts))))
            seen = [looks_of(scripts, order) for order in orders]
            first = [place for place, look in enumerate(seen) if look not in seen[:place]]
            found = outcomes(scripts)
            self.assertIsInstance(found, list)
            self.same(found, [(orders[place], in_row(scripts, orders[place]).text) for place in first])
            self.same(all_alike(scripts), len(first) == 1)
            pairs = [(low, high) for low, high in itertools.combinations(range(len(scripts)), 2)
                     if looks_of(scripts, (low, high)) != looks_of(scripts, (high, low))]
            self.same(unlike_pair(scripts), min(pairs, default=None))
            if not pairs:
                self.same(all_alike(scripts), True)
            most = [order for order, look in zip(orders, seen) if all(inside(other, look) for other in seen)]
            least = [order for order, look in zip(orders, seen) if all(inside(look, other) for other in seen)]
            self.same((most_order(scripts), least_order(scripts)), (min(most, default=None), min(least, default=None)))

    def test_by_within(self):
        rng = random.Random(14)
        scripts_to_seven = [script_of(form) for form in forms_to(7)]
        none = set()
        for _ in range(300):
            scripts = [rng.choice(scripts_to_seven) for _ in range(rng.randint(1, 4))]
            orders = list(itertools.permutations(range(len(scripts))))
            rows_in = [in_row(scripts, order) for order in orders]
            most = [order for order, own in zip(orders, rows_in) if all(other.within(own) for other in rows_in)]
            least = [order for order, own in zip(orders, rows_in) if all(own.within(other) for other in rows_in)]
            self.same((most_order(scripts), least_order(scripts)), (min(most, default=None), min(least, default=None)))
            self.same(all_alike(scripts), all(own == rows_in[0] for own in rows_in))
            first = [place for place, own in enumerate(rows_in) if own not in rows_in[:place]]
            self.same(outcomes(scripts), [(orders[place], rows_in[place].text) for place in first])
            none.add((most_order(scripts) is None, least_order(scripts) is None))
        self.assertGreater(len(none), 2)

    def test_that_there_is_none(self):
        scripts = (Script.of("town 2; county 5"), Script.of("county 7; town 4"))
        self.same((most_order(scripts), least_order(scripts)), (None, None))
        self.same((most_order(multiplied(scripts)), least_order(multiplied(scripts))), (None, None))

    def test_an_unlike_pair_and_yet_all_alike(self):
        found = [scripts for scripts in groups(15, 400) if unlike_pair(scripts) is not None and all_alike(scripts)]
        self.assertNotEqual(found, [])

    def test_great_numbers(self):
        for scripts in all_groups():
            great = multiplied(scripts)
            self.same((all_alike(great), unlike_pair(great), most_order(great), least_order(great)),
                      (all_alike(scripts), unlike_pair(scripts), most_order(scripts), least_order(scripts)))
            self.same(outcomes(great), [(order, grown(Script.of(text)).text) for order, text in outcomes(scripts)])

    def test_lists_for_tuples_and_by_name(self):
        for scripts in groups(16, 40):
            for call in (outcomes, all_alike, unlike_pair, most_order, least_order):
                self.same(call(list(scripts)), call(scripts))
                self.same(call(scripts=scripts), call(scripts))

    def test_each_list_is_new(self):
        scripts = (Script.of("town 5"), Script.of("county 10"))
        found = outcomes(scripts)
        found.append("more")
        found[0] = "other"
        self.same(outcomes(scripts), [((0, 1), "town 5; county 10"), ((1, 0), "county 10; town 5")])

    def test_one_script(self):
        for script in (Script(), Script.of("county 3; town 2; county 3")):
            self.same((outcomes((script,)), all_alike((script,)), unlike_pair((script,)), most_order((script,)),
                       least_order((script,))), ([((0,), script.plain.text)], True, None, (0,), (0,)))


class Towns(Case):
    def test_against_all_orders(self):
        rng = random.Random(17)
        for scripts in all_groups():
            for bag in rng.sample(SOME, 5):
                shown = [left_by(rules_in_row(scripts, order), bag)
                         for order in itertools.permutations(range(len(scripts)))]
                each = [town for town in bag if all(town in own for own in shown)]
                some = [town for town in bag if any(town in own for own in shown)]
                county = county_of(bag)
                self.same((always(scripts, county).runs, sometimes(scripts, county).runs),
                          (county_of(each).runs, county_of(some).runs))
                self.same((always(county=county, scripts=list(scripts)).runs,
                           sometimes(county=county, scripts=list(scripts)).runs),
                          (county_of(each).runs, county_of(some).runs))
                great = County([(town * GREAT, 1) for town in bag])
                self.same((always(multiplied(scripts), great).runs, sometimes(multiplied(scripts), great).runs),
                          (County([(town * GREAT, 1) for town in each]).runs,
                           County([(town * GREAT, 1) for town in some]).runs))


class Interface(Case):
    def test_they_are_defined_in_the_file(self):
        for name in ("in_row", "shortened", "outcomes", "all_alike", "unlike_pair", "most_order", "least_order", "always",
                     "sometimes"):
            self.assertEqual(vars(rows)[name].__module__, "smalltowns.rows")


if __name__ == "__main__":
    unittest.main()
