"""[7], and [2] of the same."""

import functools
import itertools
import unittest

from helper import Case
from models import (GREAT, bags, county_of, form_of_set, grown, inside, looks, rules_of, set_of, set_within, sets_to)

from smalltowns import order
from smalltowns.counties import County
from smalltowns.errors import NoNumber, NotBetween, NoTown
from smalltowns.forms import script_of
from smalltowns.order import (above, below, compare, many_between, many_strict, many_with, nth_between, outside_county,
                              parting_county, rank_between, strictest, strictness)
from smalltowns.scripts import Script

FIRST = "county 10; town 5"
OTHER = "town 5; county 10"


def by_set(numbers):
    """The Script of a set of numbers."""
    return script_of(form_of_set(numbers))


@functools.lru_cache(maxsize=None)
def family(most):
    """All Scripts with numbers to most, each with what it shows of small counties."""
    some = bags(2 * most, most + 1)
    scripts = [by_set(numbers) for numbers in sets_to(most)]
    return [(script, looks(rules_of(script), some)) for script in scripts]


def pairs(most):
    """All pairs of them."""
    return itertools.product(family(most), repeat=2)


def shown_rows(script, county):
    """How many rows are shown, by the steps."""
    return script(county).rows


class Examples(Case):
    """What DOC.md shows in [7]."""

    def setUp(self):
        self.p, self.q = Script.of(FIRST), Script.of(OTHER)
        self.both = Script.of("county 3") & Script.of("town 2")

    def test_compare(self):
        p, q = self.p, self.q
        self.same((p.within(q), q.within(p), compare(q, p), compare(p, q),
                   compare(Script.of("county 3"), Script.of("town 2")),
                   compare(p, Script.of("county 10; county 7; town 5"))),
                  (False, True, "within", "around", "neither", "alike"))

    def test_both_and_either(self):
        either = Script.of("county 3") | Script.of("town 2")
        self.same((self.both == Script.of("county 3; town 2"), either == Script.of("county 2"),
                   [own(County.of("1x2")).text for own in (Script.of("county 3"), Script.of("town 2"), either)]),
                  (True, True, ["-", "-", "1x2"]))

    def test_strictness(self):
        p, q = self.p, self.q
        self.same((p.form, q.form, strictness(p), strictness(q), strictness(Script()), len(above(p)), len(below(p))),
                  (((1, 4), (10, 10)), ((6, 10),), 19, 39, 0, 2, 2))

    def test_above_and_below(self):
        p = self.p
        self.same((Script.of("county 9; town 5") in above(p), Script.of("county 10; town 4; county 5") in above(p),
                   Script.of("county 11; town 5") in below(p), above(Script()), len(below(Script()))),
                  (True, True, True, [], 1))

    def test_counties(self):
        p, q = self.p, self.q
        far = outside_county(p, q)
        self.same((p(far).rows > q(far).rows, len(far) < 3, outside_county(q, p), parting_county(p, p),
                   p(parting_county(q, p)) == q(parting_county(q, p))), (True, True, None, None, False))

    def test_strictest(self):
        county = County.of("1 4 5")
        self.same((strictest(((county, 5),)) == Script.of("county 10; town 4; county 9; town 5"),
                   strictest(((county, 5), (County.of("3 7"), 7))).form, strictest(())),
                  (True, ((1, 1), (4, 4), (7, 8), (10, 10)), None))

    def test_how_many(self):
        p, q, both = self.p, self.q, self.both
        self.same((many_with(5, 10), many_with(1, 10 ** 40) == 10 ** 40, [many_strict(number, 3) for number in range(7)],
                   many_between(both, Script()), many_between(q, p), many_between(p, q)),
                  (252, True, [1, 1, 2, 1, 1, 1, 0], 5, 126, 0))

    def test_numbers(self):
        self.same(([nth_between(self.both, Script(), number).form for number in range(5)],
                   rank_between(self.both, Script(), Script.of("town 2"))),
                  ([((1, 1),), ((2, 2),), ((3, 3),), ((1, 2),), ((1, 1), (3, 3))], 3))

    def test_errors(self):
        self.refused(NoNumber, {"number": 5}, nth_between, self.both, Script(), 5)
        self.refused(NotBetween, {"strange": ((1, 4), (10, 10))}, rank_between, self.both, Script(), self.p)
        self.refused(NoTown, {"size": 4}, strictest, ((County.of("5"), 4),))


class Within(Case):
    def test_by_what_is_shown(self):
        for (p, here), (q, there) in pairs(5):
            self.same(p.within(q), inside(here, there))
            self.same(p.within(other=q), set_within(set_of(p.form), set_of(q.form)))

    def test_by_how_many_rows_are_shown(self):
        some = [county_of(bag) for bag in bags(8, 5)]
        for (p, _), (q, _) in pairs(4):
            fewer = all(shown_rows(p, county) <= shown_rows(q, county) for county in some)
            self.same(p.within(q), fewer)

    def test_great_numbers(self):
        for (p, here), (q, there) in pairs(5):
            self.same(grown(p).within(grown(q)), inside(here, there))
        self.assertTrue(Script.of(f"town {GREAT}").within(Script.of(f"town {GREAT - 1}")))
        self.assertFalse(Script.of(f"town {GREAT - 1}").within(Script.of(f"town {GREAT}")))

    def test_scripts_that_are_not_plain(self):
        one, other = Script.of("county 3; county 1; town 2; town 1"), Script.of("town 1; county 3; county 2")
        self.same((one.within(other), other.within(one), compare(p=one, q=other)), (True, False, "within"))


class Compare(Case):
    def test_by_what_is_shown(self):
        for (p, here), (q, there) in pairs(5):
            if here == there:
                wanted = "alike"
            elif inside(here, there):
                wanted = "within"
            else:
                wanted = "around" if inside(there, here) else "neither"
            self.same((compare(p, q), compare(grown(p), q=grown(q))), (wanted, wanted))


class BothAndEither(Case):
    def test_both_show_just_what_both_show(self):
        some = bags(10, 6)
        for (p, here), (q, there) in pairs(5):
            both = p & q
            self.assertEqual(looks(rules_of(both), some), tuple([one & other for one, other in zip(here, there)]))
            self.same(both.text, both.plain.text)

    def test_the_sets_of_both(self):
        for (p, _), (q, _) in pairs(5):
            one, other = sorted((set_of(p.form), set_of(q.form)), key=len)
            greater = [max(pair) for pair in zip(one, other)] + list(other[len(one):])
            self.same((p & q).form, form_of_set(greater))
            self.same((p | q).form, form_of_set([min(pair) for pair in zip(one, other)]))

    def test_either_is_the_least_one_around_both(self):
        for (p, here), (q, there) in pairs(5):
            either = p | q
            seen = looks(rules_of(either), bags(10, 6))
            self.assertTrue(inside(here, seen) and inside(there, seen))
            self.same(either.text, either.plain.text)
            for _, wide in family(5):
                if inside(here, wide) and inside(there, wide):
                    self.assertTrue(inside(seen, wide))

    def test_they_are_spread_over_one_another(self):
        scripts = [script for script, _ in family(4)]
        for p, q, third in itertools.product(scripts, repeat=3):
            self.assertEqual(p & (q | third), (p & q) | (p & third))
            self.assertEqual(p | (q & third), (p | q) & (p | third))

    def test_great_numbers(self):
        for (p, _), (q, _) in pairs(5):
            self.same((grown(p) & grown(q)).text, grown(p & q).text)
            self.same((grown(p) | grown(q)).text, grown(p | q).text)

    def test_both_stay_as_they_are(self):
        p, q = Script.of("county 10; county 2; town 5"), Script.of("town 6; town 6")
        self.same(((p & q).text, (p | q).text), ("county 10; town 6", "county 6; town 5"))
        self.same((p.text, q.text), ("county 10; county 2; town 5", "town 6; town 6"))
        self.assertEqual(p & q, p & q)

    def test_with_nothing_else(self):
        for thing in (None, 5, (), "town 5", County.of("5")):
            with self.assertRaises(TypeError):
                Script.of(FIRST) & thing
            with self.assertRaises(TypeError):
                Script.of(FIRST) | thing


class Neighbours(Case):
    def covers(self, most, start):
        """For each Script: those just below it, with numbers to most, by what they show."""
        told = family(most)
        for script, here in family(start):
            here = looks(rules_of(script), bags(2 * most, most + 1))
            less = [own for own in told if own[1] != here and inside(own[1], here)]
            just = [own for own, seen in less
                    if not any(seen != other and inside(seen, other) for _, other in less)]
            yield script, just

    def test_below(self):
        for script, just in self.covers(6, 5):
            self.alike_lists(below(script), just)
            self.alike_lists(below(p=script), just)

    def test_above(self):
        just_above = {script.form: [] for script, _ in family(5)}
        for script, just in self.covers(5, 5):
            for own in just:
                just_above[own.form].append(script)
        for script, _ in family(5):
            self.alike_lists(above(script), just_above[script.form])
            self.alike_lists(above(p=script), just_above[script.form])

    def alike_lists(self, found, wanted):
        self.assertIs(found.__class__, list)
        self.same(sorted(own.form for own in found), sorted(own.form for own in wanted))
        self.same([own.text for own in found], [own.plain.text for own in found])

    def test_the_one_is_the_other_the_other_way_round(self):
        # The numbers lie far apart, beside one another, and with one between.
        for form in (((1, GREAT),), ((GREAT, GREAT),), ((2, GREAT), (GREAT + 2, GREAT + 2), (GREAT + 4, 3 * GREAT)),
                     ((1, 1), (3, 3)), ((1, 1), (GREAT, GREAT))):
            script = script_of(form)
            for own in below(script):
                self.assertTrue(own.within(script) and not script.within(own))
                self.assertIn(script, above(own))
                self.same(strictness(own), strictness(script) + 1)
            for own in above(script):
                self.assertTrue(script.within(own) and not own.within(script))
                self.assertIn(script, below(own))
                self.same(strictness(own), strictness(script) - 1)

    def test_great_numbers(self):
        script = script_of(((1, GREAT), (3 * GREAT, 4 * GREAT)))
        self.same(sorted(own.form for own in below(script)),
                  [((1, GREAT - 1), (GREAT + 1, GREAT + 1), (3 * GREAT, 4 * GREAT)),
                   ((1, GREAT), (3 * GREAT, 4 * GREAT - 1), (4 * GREAT + 1, 4 * GREAT + 1))])
        self.same(sorted(own.form for own in above(script)),
                  [((1, GREAT), (3 * GREAT - 1, 3 * GREAT - 1), (3 * GREAT + 1, 4 * GREAT)),
                   ((2, GREAT), (3 * GREAT, 4 * GREAT))])

    def test_the_ends(self):
        self.same(above(Script()), [])
        self.same([own.text for own in below(Script())], ["county 2"])
        self.same([own.text for own in above(Script.of("county 2"))], ["-"])
        self.same(sorted(own.text for own in below(Script.of("county 2"))), ["county 3", "town 2"])

    def test_each_list_is_new(self):
        script = Script.of(FIRST)
        for call in (above, below):
            told = call(script)
            wanted = [own.text for own in told]
            told.clear()
            self.same([own.text for own in call(script)], wanted)
        self.same(script.text, FIRST)


class Strictness(Case):
    def test_by_steps_down(self):
        levels, level = {}, [Script()]
        while level:
            for script in level:
                levels.setdefault(script.form, []).append(len(levels))
            depth = strictness(level[0])
            self.same([strictness(p=script) for script in level], [depth] * len(level))
            below_them = {own.form: own for script in level for own in below(script) if own.floor(1) <= 5}
            self.same([strictness(own) for own in below_them.values()], [depth + 1] * len(below_them))
            level = list(below_them.values())
        self.same(len(levels), 31)
        self.assertTrue(all(len(own) == 1 for own in levels.values()))

    def test_it_is_the_sum(self):
        for numbers in sets_to(7):
            self.same(strictness(by_set(numbers)), sum(numbers) - 1)

    def test_great_numbers(self):
        self.same(strictness(Script.of(f"county {GREAT}")), GREAT - 1)
        self.same(strictness(Script.of(f"town {GREAT}")), GREAT * (GREAT + 1) // 2 - 1)
        self.same(strictness(script_of(((GREAT, 3 * GREAT), (5 * GREAT, 5 * GREAT)))),
                  2 * GREAT * (2 * GREAT + 1) + 5 * GREAT - 1)


class Counties(Case):
    def check_outside(self, p, q, far):
        """The County is just as it is said to be."""
        self.assertIs(far.__class__, County)
        self.assertLessEqual(len(far), 2)
        mine, its = p(far), q(far)
        self.assertTrue(any(mine[size] > its[size] for size, _ in far.runs))
        self.assertGreater(mine.rows, its.rows)

    def test_outside(self):
        for (p, here), (q, there) in pairs(6):
            for one, other in ((p, q), (grown(p), grown(q))):
                far = outside_county(one, other)
                if inside(here, there):
                    self.assertIsNone(far)
                else:
                    self.check_outside(one, other, far)

    def test_parting(self):
        for (p, here), (q, there) in pairs(6):
            for one, other in ((p, q), (grown(p), grown(q))):
                parting = parting_county(one, other)
                if here == there:
                    self.assertIsNone(parting)
                else:
                    self.assertLessEqual(len(parting), 2)
                    self.assertNotEqual(one(parting), other(parting))

    def test_again_and_by_name(self):
        p, q = Script.of(FIRST), Script.of(OTHER)
        self.assertEqual(outside_county(p, q), outside_county(q=q, p=p))
        self.assertEqual(parting_county(q, p), parting_county(p=q, q=p))
        self.assertEqual(outside_county(p, q).runs, outside_county(p.plain, q.plain).runs)

    def test_neighbours_of_great_numbers(self):
        script = script_of(((2, GREAT), (2 * GREAT, 2 * GREAT), (GREAT * GREAT, GREAT * GREAT + 7)))
        for own in below(script):
            self.check_outside(script, own, outside_county(script, own))
            self.assertIsNone(outside_county(own, script))
            self.assertNotEqual(script(parting_county(own, script)), own(parting_county(own, script)))


class Strictest(Case):
    def check(self, wishes):
        """It shows all, and all others with small numbers that do so are around it."""
        found = strictest(wishes)
        self.same(found.text, found.plain.text)
        self.assertTrue(all(found.shows(county, size) for county, size in wishes))
        for script, _ in family(5):
            if all(size in script(county) for county, size in wishes):
                self.assertTrue(found.within(script))

    def test_one_and_two_wishes(self):
        wishes = [(county_of(bag), size) for bag in bags(5, 5) for size in sorted(set(bag))]
        for wish in wishes:
            self.check((wish,))
        for one, other in itertools.product(wishes, repeat=2):
            self.check((one, other))

    def test_none(self):
        self.same((strictest(()), strictest([]), strictest(wishes=())), (None, None, None))

    def test_floors(self):
        wishes = [(County.of(text), size) for text, size in (("1x4 3 7 9", 7), ("2x3 6 8 12", 12), ("5x2 6 20", 6))]
        for many in (1, 2, 3):
            for some in itertools.permutations(wishes, many):
                found = strictest(some)
                self.same(found.least, min(size for _, size in some))
                for size in range(1, found.least + 1):
                    self.same(found.floor(size), min(county.rows_from(size) for county, _ in some))

    def test_as_many_and_as_great_as_can_be(self):
        top = 10 ** 40 - 60
        wishes = []
        for turn in range(20):
            county = County([(top + 60 - 3 * place // 2, 1 + (place * 7 + turn) % 11) for place in range(0, 60, 2)]
                            + [(1 + turn + 97 * place, 1 + (place * turn) % 5) for place in range(30)])
            wishes.append((county, county.runs[-1 - turn][0]))
        found = strictest(tuple(wishes))
        self.same(found.least, min(size for _, size in wishes))
        self.assertTrue(all(found.shows(county, size) for county, size in wishes))
        for near in sorted({size for county, _ in wishes for size, _ in county.runs if size < found.least}):
            for size in (near, near + 1):
                self.same(found.floor(size), min(county.rows_from(size) for county, _ in wishes))
        self.same(len(found.floors), len({rows for _, rows in found.floors}))

    def test_of_the_first_that_is_wrong(self):
        right, none, other = (County.of("5"), 5), (County.of("5"), 4), (County(), 1)
        for wishes, size in (((none,), 4), ((right, none, other), 4), ((other, none), 1), ((right, other, right), 1),
                             (((County.of("5"), 0),), 0), (((County.of("5"), -GREAT),), -GREAT)):
            self.refused(NoTown, {"size": size}, strictest, wishes)
            self.refused(NoTown, {"size": size}, strictest, wishes=[list(wish) for wish in wishes])

    def test_lists_for_tuples(self):
        wish = [County.of("1 4 5"), 5]
        wishes = [wish, (County.of("3 7"), 7)]
        found = strictest(wishes)
        self.assertEqual(found, strictest(((County.of("1 4 5"), 5), (County.of("3 7"), 7))))
        self.same((len(wishes), wish[1], wish[0].text), (2, 5, "1 4 5"))
        wish[1] = 4
        wishes.clear()
        self.same(found.form, ((1, 1), (4, 4), (7, 8), (10, 10)))


class HowMany(Case):
    def test_with(self):
        told = sets_to(8)
        for least, most in itertools.product(range(-2, 11), range(-2, 9)):
            wanted = sum(len(numbers) == least and numbers[0] <= most for numbers in told)
            self.same(many_with(least, most), wanted)
            self.same(many_with(most=most, least=least), wanted)

    def test_with_is_of_least_and_floor(self):
        for most in range(1, 7):
            for least in range(1, 7):
                wanted = sum(script.least == least and script.floor(1) <= most for script, _ in family(6))
                self.same(many_with(least, most), wanted)

    def test_with_great_numbers(self):
        top = 10 ** 40
        self.same((many_with(1, top), many_with(2, top), many_with(0, top), many_with(-top, top), many_with(3, -top)),
                  (top, top * (top - 1) // 2, 0, 0, 0))
        self.same(sum(many_with(least, 300) for least in range(301)), 2 ** 300 - 1)
        self.same(many_with(400, 400), 1)
        self.assertTrue(many_with(400, top + 1) - many_with(400, top) == many_with(399, top) > 0)

    def test_strict(self):
        told = sets_to(8)
        for number, most in itertools.product(range(-3, 40), range(-2, 9)):
            wanted = sum(sum(numbers) - 1 == number and numbers[0] <= most for numbers in told)
            self.same(many_strict(number, most), wanted)
            self.same(many_strict(most=most, number=number), wanted)

    def test_strict_of_scripts(self):
        for number in range(22):
            self.same(many_strict(number, 6), sum(strictness(script) == number for script, _ in family(6)))

    def test_strict_great(self):
        # Each set of numbers to 27 has one sum; sums of at most 399 use no number above 400.
        self.same(sum(many_strict(number, 27) for number in range(378)), 2 ** 27 - 1)
        self.same((many_strict(377, 27), many_strict(378, 27), many_strict(400, 1), many_strict(-GREAT, 400)),
                  (1, 0, 0, 0))
        self.same((many_strict(399, 400), many_strict(400, 400)), (self.sums(400, 400), self.sums(401, 400)))

    def sums(self, whole, most):
        """How many sets of numbers up to most have this sum, by whether the greatest one is in."""
        @functools.lru_cache(maxsize=None)
        def ways(left, number):
            if left == 0:
                return 1
            if left < 0 or number * (number + 1) // 2 < left:
                return 0
            return ways(left - number, number - 1) + ways(left, number - 1)
        return ways(whole, most)


class Between(Case):
    def told(self, p, q, most):
        """The sets that stand between both, in order."""
        some = [own for own in sets_to(most) if set_within(set_of(p.form), own) and set_within(own, set_of(q.form))]
        return sorted(some, key=lambda own: (len(own), own))

    def test_all_small_ones(self):
        for (p, _), (q, _) in pairs(5):
            told = self.told(p, q, 5)
            self.same(many_between(p, q), len(told))
            self.same([set_of(nth_between(p, q, number).form) for number in range(len(told))], told)
            self.same([rank_between(p, q, by_set(own)) for own in told], list(range(len(told))))
            for number in (-1, -GREAT, len(told), len(told) + 1, GREAT):
                self.refused(NoNumber, {"number": number}, nth_between, p, q, number)

    def test_they_stand_between_by_what_they_show(self):
        for (p, here), (q, there) in pairs(4):
            told = [script for script, seen in family(4) if inside(here, seen) and inside(seen, there)]
            self.same(many_between(p, q), len(told))
            self.same(sorted(rank_between(p, q, script) for script in told), list(range(len(told))))

    def test_all_others_are_strange(self):
        scripts = [script for script, _ in family(5)]
        for p, q in itertools.product(scripts[::3], scripts[::4]):
            told = [form_of_set(own) for own in self.told(p, q, 5)]
            for script in scripts:
                if script.form not in told:
                    self.refused(NotBetween, {"strange": script.form}, rank_between, p, q, script)

    def test_ten_numbers(self):
        for p, q in (((10, 8, 7, 4, 2), (6, 3)), ((10, 9, 8, 3), (1,)), ((9, 8, 7, 6, 5, 4, 3, 2, 1), (7, 5, 1))):
            told = self.told(by_set(p), by_set(q), 10)
            self.same(many_between(p=by_set(p), q=by_set(q)), len(told))
            for number, own in enumerate(told):
                self.same(set_of(nth_between(by_set(p), by_set(q), number).form), own)
                self.same(rank_between(by_set(p), by_set(q), by_set(own)), number)

    def test_sets_of_sixty_numbers(self):
        # Within "town 60" are those with numbers to 60 alone: each set of them.
        self.same(many_between(Script.of("town 60"), Script()), 2 ** 60 - 1)
        self.same(many_between(Script.of("town 60; county 70"), Script()),
                  sum(many_with(least, 70) for least in range(1, 61)))
        self.same(many_between(Script.of(f"town 60; county {10 ** 40}"), Script.of("town 60")), many_with(60, 10 ** 40))
        self.same(many_between(Script.of(f"town 60; county {10 ** 40}"), Script()),
                  sum(many_with(least, 10 ** 40) for least in range(1, 61)))

    def test_great_numbers(self):
        # One number of at most a, or two, the lesser of them at most b.
        for a, b in ((7, 3), (10 ** 40, 5), (10 ** 40, 10 ** 40 - 1), (3 * GREAT, GREAT)):
            p = by_set((a, b))
            self.same(many_between(p, Script()), a + a * b - b * (b + 1) // 2)
            for number in (0, 1, 2, a - 1, a, a + 1, a + 2, many_between(p, Script()) - 1):
                self.same(rank_between(p, Script(), nth_between(p, Script(), number)), number)
            self.same(rank_between(p, Script(), by_set((a,))), a - 1)
            self.same(rank_between(p, Script(), by_set((2, 1))), a)
            self.same(rank_between(p, Script(), p), many_between(p, Script()) - 1)

    def test_twelve_great_numbers(self):
        p = script_of(tuple([(place * GREAT, place * GREAT) for place in range(1, 13)]))
        q = script_of(tuple([(place * GREAT // 2, place * GREAT // 2) for place in range(8, 12)]))
        many = many_between(p, q)
        numbers = [0, 1, many // 7, many // 3, many // 3 + 1, many // 2, many - many // 9, many - 2, many - 1]
        told = [nth_between(p, q, number) for number in numbers]
        for number, script in zip(numbers, told):
            self.assertTrue(p.within(script) and script.within(q))
            self.same(rank_between(p, q, script), number)
        keys = [(script.least, set_of(script.form)) for script in told]
        self.same(keys, sorted(set(keys)))
        self.same((told[0].form, told[-1].form), (q.form, p.form))
        for number in (many, many + 1, -1, -many, 10 ** 2000):
            self.refused(NoNumber, {"number": number}, nth_between, p, q, number)
        self.refused(NotBetween, {"strange": ((1, 1),)}, rank_between, p, q, Script())

    def test_where_nothing_stands_between(self):
        # The sets of these have far more numbers than could be told one by one.
        great = Script.of(f"town {10 ** 40}")
        self.same(many_between(Script.of("county 3"), great), 0)
        self.refused(NoNumber, {"number": 0}, nth_between, Script.of("county 3"), great, 0)
        self.refused(NotBetween, {"strange": ((3, 3),)}, rank_between, Script.of("county 3"), great, Script.of("county 3"))
        self.refused(NotBetween, {"strange": ((1, 10 ** 40),)}, rank_between, Script.of("county 3"), Script(), great)

    def test_by_name_and_again(self):
        p, q = Script.of("town 4; county 6"), Script.of("county 3; county 1")
        for number in range(many_between(q=q, p=p)):
            found = nth_between(number=number, q=q, p=p)
            self.same(found.text, found.plain.text)
            self.same((nth_between(p, q, number).text, rank_between(third=found, p=p, q=q)), (found.text, number))
        self.same((p.text, q.text), ("town 4; county 6", "county 3; county 1"))


class Interface(Case):
    def test_they_are_defined_in_the_file(self):
        for name in ("compare", "strictness", "outside_county", "parting_county", "above", "below", "strictest",
                     "many_with", "many_strict", "many_between", "nth_between", "rank_between"):
            self.assertEqual(vars(order)[name].__module__, "smalltowns.order")


if __name__ == "__main__":
    unittest.main()
