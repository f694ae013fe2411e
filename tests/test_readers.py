"""[9], and [2] and [3] of the same."""

import functools
import itertools
import random
import unittest

from helper import Case
from models import GREAT, bags, county_of, forms_to, grown, left_by, rules_of, script_by

from smalltowns import readers
from smalltowns.counties import County
from smalltowns.errors import NeverShown, Unlike
from smalltowns.forms import script_of
from smalltowns.readers import (agree, bonds, can_be_shown, can_hide, can_total, county_for, fewest_rows_for,
                                greatest_town, least_hidden, least_rows, least_towns)
from smalltowns.scripts import Script

SCRIPTS = tuple([script_of(form) for form in forms_to(5)])
# What is shown has at most 7 rows here, and with fewest rows a county of it at most 8.
SHOWN = bags(7, 7)
COUNTIES = bags(15, 8)


@functools.lru_cache(maxsize=None)
def counties_by_shown(script_number):
    """All small counties, by what this Script shows of them."""
    rules = rules_of(SCRIPTS[script_number])
    found = {}
    for bag in COUNTIES:
        found.setdefault(tuple(left_by(rules, bag)), []).append(bag)
    return found


def cases():
    """Each Script with numbers to 5 and each small County, with all hidden bags of few rows."""
    for number, script in enumerate(SCRIPTS):
        for bag in SHOWN:
            found = counties_by_shown(number).get(bag, []) if bag else []
            hidden = []
            for county in found:
                rest = list(county)
                for town in bag:
                    rest.remove(town)
                hidden.append(rest)
            yield script, county_of(bag), hidden


def falling_script(least, most, rng):
    """A Script with this least and with floors that fall often, the first one at most this."""
    rows = sorted([rng.randint(least, most) for _ in range(least)], reverse=True)
    steps = []
    for size in range(1, least + 1):
        if size == least or rng.random() < 0.3:
            steps += [("town", size), ("county", rows[size - 1])]
    return script_by(steps)


def least_sum(script, shown, size, town=0):
    """The least rows of the towns from this size on of a hidden bag with this town, size by size."""
    need = {own: max([0] + [rows for end, rows in bonds(script, shown) if end == own])
            for own in range(1, script.least)}
    limit = script.floor(1) + 2 * script.least
    sums = [total == 0 for total in range(limit)]
    for own in range(script.least - 1, size - 1, -1):
        if own == town:
            sums = [total >= own and sums[total - own] for total in range(limit)]
        for total in range(own, limit):
            sums[total] = sums[total] or sums[total - own]
        sums = [there and total >= need[own] for total, there in enumerate(sums)]
    return sums.index(True)


class Examples(Case):
    """What DOC.md shows in [9]."""

    def setUp(self):
        self.script = Script.of("town 4; county 8; town 6")
        self.wide = Script.of("county 20; town 4; county 12; town 6")
        self.six = County.of("6")
        self.both = (self.script, Script.of("town 2; county 12"))

    def test_what_can_be_shown(self):
        script, wide, six = self.script, self.wide, self.six
        self.same((can_be_shown(script, six), can_be_shown(script, County.of("5 6")),
                   can_be_shown(Script.of("town 2; county 9"), County.of("2x4"))), (True, False, False))
        self.same((bonds(script, six), bonds(wide, six), bonds(wide, County.of("6 9")), bonds(script, County.of("8"))),
                  (((4, 2),), ((1, 14), (4, 6)), ((1, 5),), ()))

    def test_what_was_hidden(self):
        script, wide, six = self.script, self.wide, self.six
        self.same([can_hide(script, six, County.of(text)) for text in ("4", "5", "3x9", "6", "-", "1 2 4")],
                  [True, True, False, False, False, True])
        self.same(([least_rows(script, six, size) for size in (1, 4, 5)],
                   [least_rows(wide, six, size) for size in (1, 2, 5)],
                   [least_towns(wide, six, size) for size in (1, 4, 5)]), ([4, 4, 0], [14, 8, 0], [3, 2, 0]))
        self.same((least_hidden(script, six).text, can_hide(wide, six, least_hidden(wide, six)),
                   least_rows(Script.of("town 4; county 1000000000007; town 6"), six)), ("4", True, 1000000000001))

    def test_totals(self):
        script, wide, six = self.script, self.wide, self.six
        self.same(([can_total(script, six, rows) for rows in (6, 9, 10, 11)], greatest_town(script, six, 10),
                   greatest_town(script, six, 9), greatest_town(wide, six, 20), greatest_town(Script(), six, 6)),
                  ([False, False, True, True], 4, None, 5, 0))

    def test_several_scripts(self):
        script, six, both = self.script, self.six, self.both
        other = (script, Script.of("town 2; county 9"))
        self.same((agree(both, (six, County())), fewest_rows_for(both, (six, County())),
                   county_for(both, (six, County())).text, agree(other, (six, County()))), (True, 10, "4 6", False))
        self.same((county_for(other, (six, County.of("4 6"))).text, agree(both, (six, County.of("6"))),
                   county_for(both, (County(), County())).text), ("4 6", False, "-"))

    def test_errors(self):
        self.refused(NeverShown, {}, bonds, self.script, County.of("5"))
        self.refused(Unlike, {}, agree, self.both, (self.six,))


class OneScript(Case):
    """Against going through all small counties."""

    def test_what_can_be_shown(self):
        for script, shown, hidden in cases():
            self.same(can_be_shown(script, shown), len(hidden) > 0)

    def test_can_hide(self):
        some = bags(8, 6)
        for script, shown, hidden in cases():
            if hidden:
                right = {tuple(sorted(bag)) for bag in hidden}
                for bag in some:
                    self.same(can_hide(script, shown, county_of(bag)), bag in right)

    def test_bonds(self):
        for script, shown, hidden in cases():
            if hidden:
                rows = shown.rows
                wanted = tuple([(size, script.floor(size) - rows) for size in range(1, script.least + 1)
                                if script.floor(size) > rows and script.floor(size) > script.floor(size + 1)])
                self.same(bonds(script, shown), wanted)
                self.same(wanted == (), [] in hidden)

    def test_bonds_tell_the_hidden_bags(self):
        some = bags(8, 6)
        for script, shown, hidden in cases():
            if hidden:
                right = {tuple(sorted(bag)) for bag in hidden}
                pairs = bonds(script, shown)
                for bag in some:
                    kept = (all(town < script.least for town in bag)
                            and all(sum(town for town in bag if town >= size) >= rows for size, rows in pairs))
                    self.same(kept, bag in right)

    def test_least_rows_and_towns(self):
        for script, shown, hidden in cases():
            if hidden:
                self.same(least_rows(script, shown), min(sum(bag) for bag in hidden))
                self.same(least_towns(script, shown), min(len(bag) for bag in hidden))
                for size in range(1, 8):
                    parts = [[town for town in bag if town >= size] for bag in hidden]
                    self.same(least_rows(script, shown, size), min(sum(part) for part in parts))
                    self.same(least_towns(script, shown, size=size), min(len(part) for part in parts))

    def test_least_hidden(self):
        for script, shown, hidden in cases():
            if hidden:
                found = least_hidden(script, shown)
                self.assertIsInstance(found, County)
                self.assertTrue(can_hide(script, shown, found))
                self.same(found.rows, least_rows(script, shown))
                self.assertEqual(found, least_hidden(shown=shown, script=script))

    def test_totals(self):
        for script, shown, hidden in cases():
            if hidden:
                for rows in range(-1, 15):
                    right = [bag for bag in hidden if sum(bag) + shown.rows == rows]
                    self.same(can_total(script, shown, rows), len(right) > 0)
                    wanted = max([max(bag, default=0) for bag in right], default=None)
                    self.same(greatest_town(script, shown, rows), wanted)

    def test_of_no_town_that_can_be_hidden(self):
        # Without a town below the least one there is but one county.
        one, county = Script.of("county 5"), County.of("1 4")
        self.same((can_total(one, county, 5), can_total(one, county, 6), can_total(one, county, 4),
                   greatest_town(one, county, 5), greatest_town(one, county, 6)), (True, False, False, 0, None))

    def test_by_the_first_size_unless_told(self):
        script, six = Script.of("county 20; town 4; county 12; town 6"), County.of("6")
        self.same((least_rows(script, six), least_towns(script, six)),
                  (least_rows(script, six, size=1), least_towns(script, six, 1)))


class GreaterScripts(Case):
    """Scripts with a least to 7 and floors that are far apart, against all hidden bags of few rows."""

    def drawn(self):
        """Drawn Scripts, each with a County and with all hidden bags of at most 18 rows."""
        rng = random.Random(12)
        for _ in range(250):
            script = falling_script(rng.randint(3, 7), rng.choice((9, 14, 20)), rng)
            floor = script.floor(script.least)
            size = rng.randint(max(floor, script.least), floor + 3)
            if script.floor(1) - size <= 12:
                shown = County(((size, 1),))
                rules = rules_of(script)
                hidden = [bag for bag in bags(18, script.least - 1) if left_by(rules, bag + (size,)) == [size]]
                yield script, shown, hidden

    def test_least_rows_and_towns(self):
        many = []
        for script, shown, hidden in self.drawn():
            many.append(len(bonds(script, shown)))
            for size in range(1, script.least + 1):
                parts = [[town for town in bag if town >= size] for bag in hidden]
                self.same(least_rows(script, shown, size), min(sum(part) for part in parts))
                self.same(least_towns(script, shown, size), min(len(part) for part in parts))
            self.assertIn(least_hidden(script, shown).runs, [county_of(bag).runs for bag in hidden])
        self.assertGreater(min(many.count(number) for number in (0, 1, 2)), 10)

    def test_totals(self):
        seen = set()
        for script, shown, hidden in self.drawn():
            for rows in range(-1, 19):
                right = [max(bag, default=0) for bag in hidden if sum(bag) == rows]
                wanted = max(right, default=None)
                self.same(greatest_town(script, shown, rows + shown.rows), wanted)
                self.same(can_total(script, shown, rows + shown.rows), len(right) > 0)
                if wanted is not None:
                    seen.add(min(script.least - 1, rows) - wanted)
        # Now and then greater ones would have too many rows with what is hidden besides.
        self.assertGreater(len(seen), 2)

    def test_each_bond(self):
        for least in range(2, 7):
            some = bags(14, least - 1)
            shown = County(((least, 1),))
            for size in range(1, least):
                for lack in range(1, 12):
                    script = script_by([("town", size), ("county", least + lack), ("town", least)])
                    self.same(bonds(script, shown), ((size, lack),))
                    hidden = [bag for bag in some if sum([town for town in bag if town >= size]) >= lack]
                    for rows in range(15):
                        right = [max(bag) for bag in hidden if sum(bag) == rows]
                        self.same(greatest_town(script, shown, least + rows), max(right, default=None))


class Never(Case):
    """NeverShown ahead of all else."""

    def test_each_function(self):
        strange = County.of("1x3 99")
        for script, shown, hidden in cases():
            if not hidden:
                self.refused(NeverShown, {}, bonds, script, shown)
                self.refused(NeverShown, {}, can_hide, script, shown, strange)
                self.refused(NeverShown, {}, least_hidden, script, shown)
                for call in (least_rows, least_towns):
                    self.refused(NeverShown, {}, call, script, shown)
                    self.refused(NeverShown, {}, call, script, shown, 0)
                    self.refused(NeverShown, {}, call, script, shown, GREAT)
                for call in (can_total, greatest_town):
                    for rows in (-5, 0, shown.rows, GREAT):
                        self.refused(NeverShown, {}, call, script, shown, rows)

    def test_no_towns(self):
        self.same(can_be_shown(Script(), County()), False)
        self.refused(NeverShown, {}, bonds, Script(), County())
        self.refused(NeverShown, {}, can_total, Script(), County(), 0)

    def test_by_name(self):
        script, shown = Script.of("town 4; county 9"), County.of("4x2")
        for call, named in ((can_hide, {"hidden": County()}), (bonds, {}), (least_rows, {"size": 2}),
                            (least_towns, {"size": 2}), (least_hidden, {}), (can_total, {"rows": 9}),
                            (greatest_town, {"rows": 9})):
            self.refused(NeverShown, {}, call, shown=shown, script=script, **named)


class AtTheBounds(Case):
    """Least to 60 and floor(1) to 2,000."""

    def drawn(self, seed, many):
        """Drawn Scripts, each with a County that it can have shown."""
        rng = random.Random(seed)
        for number in range(many):
            least = rng.randint(40, 60)
            script = falling_script(least, rng.choice((100, 500, 2000)), rng)
            floor = script.floor(script.least)
            size = rng.randint(script.least, script.least + 5)
            yield rng, script, County(((size, -(-floor // size)), (size + 7, rng.randint(1, 2))))

    def test_least_rows(self):
        for rng, script, shown in self.drawn(1, 40):
            for size in (1, 2, rng.randint(3, 30), 59):
                if size < script.least:
                    self.same(least_rows(script, shown, size), least_sum(script, shown, size))

    def test_least_hidden(self):
        for _, script, shown in self.drawn(2, 40):
            found = least_hidden(script, shown)
            self.assertEqual(script(shown + found), shown)
            self.same(found.rows, least_sum(script, shown, 1))

    def test_greatest_town(self):
        for rng, script, shown in self.drawn(3, 12):
            fewest = least_rows(script, shown)
            for more in (0, 1, rng.randint(2, 40)):
                rows = shown.rows + fewest + more
                right = [town for town in range(1, script.least) if least_sum(script, shown, 1, town) <= fewest + more]
                self.same(greatest_town(script, shown, rows), max(right, default=0))
                self.same(can_total(script, shown, rows), True)
            self.same((can_total(script, shown, shown.rows + fewest - 1),
                       greatest_town(script, shown, shown.rows + fewest - 1)), (False, None))

    def test_great_totals(self):
        for _, script, shown in self.drawn(4, 20):
            self.same((can_total(script, shown, 10 ** 40), greatest_town(script, shown, 10 ** 40)),
                      (True, script.least - 1))


class GreatNumbers(Case):
    """Numbers to 10 ** 40 where bonds tells one pair or none."""

    def test_one_bond(self):
        rng = random.Random(5)
        for _ in range(300):
            top = rng.choice((10, 1000, GREAT, 1000 * GREAT))
            least = rng.randint(2, top)
            size, rows = rng.randint(1, least - 1), rng.randint(least + 1, 10 ** 40)
            script = script_by([("town", size), ("county", rows), ("town", least)])
            shown = County(((rng.randint(least, rows - 1), 1),))
            lack = rows - shown.rows
            self.same(bonds(script, shown), ((size, lack),))

            def can_be(total):
                towns = -(-total // (least - 1))
                return total >= lack and towns * size <= total

            found = least_rows(script, shown)
            self.assertTrue(can_be(found))
            # Sums of fewer rows: those between a number of least towns and as many greatest ones.
            towns = -(-lack // (least - 1))
            self.same(found, max(lack, towns * size))
            self.assertFalse(can_be(found - 1))
            bag = least_hidden(script, shown)
            self.same(bag.rows, found)
            self.assertTrue(can_hide(script, shown, bag))
            self.same((least_rows(script, shown, size), least_rows(script, shown, size + 1)), (found, 0))
            self.same((least_towns(script, shown, size), least_towns(script, shown, size + 1)), (towns, 0))
            self.same((can_total(script, shown, shown.rows + found), can_total(script, shown, shown.rows + found - 1)),
                      (True, False))

    def test_no_bond(self):
        script = script_by([("town", GREAT), ("county", 5 * GREAT), ("town", 3 * GREAT)])
        shown = County(((4 * GREAT, 1), (9 * GREAT, GREAT)))
        self.same((bonds(script, shown), least_rows(script, shown), least_towns(script, shown),
                   least_hidden(script, shown).text), ((), 0, 0, "-"))
        rows = shown.rows
        self.same([can_total(script, shown, rows + more) for more in (-1, 0, 1, GREAT)], [False, True, True, True])
        self.same([greatest_town(script, shown, rows + more) for more in (-1, 0, 1, 5, 3 * GREAT - 1, 10 ** 40)],
                  [None, 0, 1, 5, 3 * GREAT - 1, 3 * GREAT - 1])

    def test_many_bonds_of_great_numbers(self):
        # What [3] does not limit.
        script = grown(Script.of("county 20; town 4; county 12; town 6"))
        six = County(((6 * GREAT, 1),))
        self.same((can_be_shown(script, six), bonds(script, six)), (True, ((1, 14 * GREAT), (4 * GREAT, 6 * GREAT))))
        self.same((least_towns(script, six), least_towns(script, six, GREAT)), (3, 2))
        self.same((can_hide(script, six, County(((5 * GREAT, 3),))), can_hide(script, six, County(((4 * GREAT, 3),)))),
                  (True, False))


class SeveralScripts(Case):
    """Against going through all small counties."""

    def check(self, scripts, shown, wanted):
        """wanted is the least number of rows, None if there is no such county."""
        told = tuple([county_of(bag) for bag in shown])
        self.same(agree(scripts, told), wanted is not None)
        self.same(fewest_rows_for(scripts, told), wanted)
        found = county_for(scripts, told)
        if wanted is None:
            self.assertIsNone(found)
        else:
            self.same((found.rows, [script(found).text for script in scripts]), (wanted, [own.text for own in told]))

    def fewest(self, scripts, some):
        """By what is shown, the least number of rows of a county of which it is."""
        rules = [rules_of(script) for script in scripts]
        found = {}
        for bag in some:
            shown = tuple([tuple(left_by(own, bag)) for own in rules])
            found[shown] = min(found.get(shown, 99), sum(bag))
        return found

    def test_one(self):
        for script in SCRIPTS:
            found = self.fewest([script], bags(11, 6))
            for bag in bags(6, 6):
                self.check((script,), (bag,), found.get((bag,)))

    def test_two(self):
        scripts = [script_of(form) for form in forms_to(4)]
        some, told = bags(8, 5), bags(5, 5)
        for pair in itertools.product(scripts, repeat=2):
            found = self.fewest(pair, some)
            for shown in itertools.product(told, repeat=2):
                # Most pairs are shown of nothing, as both have the same great towns: a few of them will do.
                if shown in found or (sum(shown[0]) + 3 * sum(shown[1])) & 3 == 0:
                    self.check(pair, shown, found.get(shown))

    def test_three_and_four(self):
        rng = random.Random(6)
        scripts = [script_of(form) for form in forms_to(7)]
        some = bags(15, 8)
        for _ in range(60):
            own = [rng.choice(scripts) for _ in range(rng.choice((3, 4)))]
            found = self.fewest(own, some)
            # A county of fewest rows has at most 12 rows, or just those that are shown.
            for shown in found:
                if max(sum(bag) for bag in shown) < 13:
                    self.check(own, shown, found[shown])
            told = sorted(found)
            for _ in range(30):
                mixed = tuple([rng.choice(told)[place] for place in range(len(own))])
                if max(sum(bag) for bag in mixed) < 13:
                    self.check(own, mixed, found.get(mixed))

    def test_nothing_shown_by_any(self):
        for script in SCRIPTS:
            self.check((script, script, Script()), ((), (), ()), 0)

    def test_at_the_bounds(self):
        rng = random.Random(7)
        for _ in range(25):
            scripts = [falling_script(rng.randint(20, 40), rng.choice((60, 200, 500)), rng) for _ in range(4)]
            county = County([(rng.randint(1, 60), 1) for _ in range(rng.randint(1, 24))])
            shown = [script(county) for script in scripts]
            found = county_for(scripts, shown)
            self.assertLessEqual(found.rows, county.rows)
            self.assertEqual([script(found) for script in scripts], shown)
            self.same((agree(scripts, shown), fewest_rows_for(scripts, shown)), (True, found.rows))
            self.assertEqual(county_for(shown=tuple(shown), scripts=tuple(scripts)), found)

    def test_one_script_with_its_bonds(self):
        rng = random.Random(8)
        for _ in range(25):
            script = falling_script(rng.randint(20, 40), 500, rng)
            shown = County(((rng.randint(script.least, 60), rng.randint(1, 9)),))
            if can_be_shown(script, shown):
                self.same(fewest_rows_for((script,), (shown,)), shown.rows + least_rows(script, shown))
            else:
                self.same(agree((script,), (shown,)), False)

    def test_unlike(self):
        script, six = Script.of("town 4"), County.of("6")
        for call in (agree, fewest_rows_for, county_for):
            for scripts, shown in (((script,), ()), ((script,), (six, six)), ((script, script), [six]),
                                   ((script,) * 4, (six,) * 3), ([script] * 3, (six,) * 4), ((script,), (six, County()))):
                self.refused(Unlike, {}, call, scripts, shown)
                self.refused(Unlike, {}, call, shown=shown, scripts=scripts)


class Interface(Case):
    def test_they_are_defined_in_the_file(self):
        for name in ("can_be_shown", "can_hide", "bonds", "least_rows", "least_towns", "least_hidden", "can_total",
                     "greatest_town", "agree", "fewest_rows_for", "county_for"):
            self.assertEqual(vars(readers)[name].__module__, "smalltowns.readers")


if __name__ == "__main__":
    unittest.main()
