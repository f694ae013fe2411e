"""[11], and [2] and [3] of the same."""

import functools
import random
import unittest

from helper import Case
from models import GREAT, bags, county_of, forms_to, grown, left_by, rules_of

from smalltowns import tells
from smalltowns.counties import County
from smalltowns.errors import Known, NoTown, Unfit
from smalltowns.forms import script_of
from smalltowns.order import many_between
from smalltowns.scripts import Script
from smalltowns.tells import (Search, fits, how_many_fit, next_look, only_fit, read_off, strictest_fit, sure,
                              telling_table)

# What shows a town of a county of at most 6 rows has no number above 6.
SCRIPTS = tuple([script_of(form) for form in forms_to(7)])
SOME = [bag for bag in bags(6, 6) if bag]
WISHES = [(bag, town) for bag in SOME for town in sorted(set(bag))]


@functools.lru_cache(maxsize=None)
def seen():
    """What each Script with numbers to 7 says to each wish: a list of dicts."""
    found = []
    for script in SCRIPTS:
        rules = rules_of(script)
        left = {bag: left_by(rules, bag) for bag in SOME}
        found.append({(bag, town): town in left[bag] for bag, town in WISHES})
    return found


def right_ones(looks):
    """The numbers of the Scripts for which all these LOOKS are right."""
    return [number for number, says in enumerate(seen()) if all(says[bag, town] == shown for bag, town, shown in looks)]


def told(looks):
    """The LOOKS with Counties for bags."""
    return tuple([(county_of(bag), town, shown) for bag, town, shown in looks])


def drawn(seed, many, shows, hides):
    """Drawn LOOKS: about half of them those of one Script, the others any."""
    rng = random.Random(seed)
    for number in range(many):
        says = rng.choice(seen()[:63])
        looks = []
        for wish in rng.sample(WISHES, 14):
            shown = says[wish] if number & 1 else rng.random() < 0.5
            if [own[2] for own in looks].count(shown) < (shows if shown else hides):
                looks.append((wish[0], wish[1], shown))
        rng.shuffle(looks)
        yield tuple(looks)


def great_looks(looks):
    """The LOOKS with all sizes multiplied."""
    return tuple([(County([(town * GREAT, 1) for town in bag]), size * GREAT, shown) for bag, size, shown in looks])


class Examples(Case):
    """What DOC.md shows in [11]."""

    def setUp(self):
        self.first, self.other = Script.of("county 10; town 5"), Script.of("town 5; county 10")
        self.looks = ((County.of("1 4 5"), 5, True), (County.of("1 4 5"), 4, False))
        self.low = (County.of("2"), 2, True)
        self.hidden = Script.of("county 5; town 3; county 4")

    def test_looks(self):
        looks = self.looks
        self.same((fits(self.first, looks), fits(self.other, looks), strictest_fit(looks).text, how_many_fit(looks),
                   only_fit(looks), strictest_fit(())),
                  (True, False, "county 10; town 4; county 9; town 5", 105, None, None))
        self.same((sure(looks, County.of("1 4 6"), 6), sure(looks, County.of("2x2"), 2),
                   sure(looks, County.of("9"), 9), how_many_fit(looks[1:])), (True, False, None, None))

    def test_few_that_fit(self):
        low = self.low
        self.same((how_many_fit((low,)), only_fit((low, (County.of("1x9"), 1, False))).text,
                   only_fit((low, (County.of("1"), 1, True))).text, next_look((low, (County.of("1"), 1, True)))),
                  (3, "town 2", "-", None))
        self.refused(Unfit, {}, strictest_fit, ((County.of("5"), 5, True), (County.of("5x2"), 5, False)))

    def test_read_off(self):
        hidden = self.hidden
        self.same(read_off(6, tuple([hidden(own) for own in telling_table(6)])).text, "county 5; town 3; county 4")

    def test_search(self):
        hidden, search = self.hidden, Search(100)
        answers = set([search.tell(hidden.shows(search.ask[0], search.ask[1])) for turn in range(35)
                       if search.script is None])
        self.same(answers, {None})
        self.same((search.script.text, search.ask, len(search) <= 35), ("county 5; town 3; county 4", None, True))
        self.refused(Known, {}, search.tell, True)


class Looks(Case):
    """Against all Scripts with numbers to 7."""

    def test_fits(self):
        for looks in drawn(1, 200, 3, 3):
            right = right_ones(looks)
            for number, script in enumerate(SCRIPTS):
                self.same(fits(script, told(looks)), number in right)

    def check(self, looks):
        """LOOKS of which at least one says True: all that fit have numbers to 6."""
        right = [SCRIPTS[number] for number in right_ones(looks)]
        own = told(looks)
        if not right:
            for call in (strictest_fit, only_fit, how_many_fit):
                self.refused(Unfit, {}, call, own)
            self.refused(Unfit, {}, sure, own, County.of("1 4 5"), 4)
            self.assertIsNone(next_look(own))
            return
        low = strictest_fit(own)
        self.same(low.text, low.plain.text)
        self.assertEqual([script for script in right if all(low.within(other) for other in right) and script == low],
                         [low])
        self.same(how_many_fit(own), len(right))
        only = only_fit(own)
        if len(right) == 1:
            self.same(only.text, right[0].plain.text)
            self.assertIsNone(next_look(own))
        else:
            self.assertIsNone(only)
            self.check_next(own, right)

    def check_next(self, own, right):
        """The next look is one of which both answers come of the right ones."""
        found = next_look(own)
        self.same((found.__class__, len(found)), (tuple, 2))
        county, size = found
        self.assertIn(size, county)
        self.same({script.shows(county, size) for script in right}, {True, False})

    def test_with_some_that_say_true(self):
        kinds = set()
        for looks in drawn(2, 900, 4, 6):
            if any(shown for _, _, shown in looks):
                self.check(looks)
                kinds.add(min(len(right_ones(looks)), 2))
        self.same(sorted(kinds), [0, 1, 2])

    def test_with_few_looks(self):
        for looks in drawn(3, 400, 1, 1):
            if any(shown for _, _, shown in looks):
                self.check(looks)

    def test_all_that_one_script_says(self):
        for script, says in zip(SCRIPTS, seen()):
            # Of counties of few rows a Script with the number 7 shows nothing.
            if script.floor(1) < 7:
                looks = tuple([(bag, town, says[bag, town]) for bag, town in WISHES])
                own, right = told(looks), right_ones(looks)
                self.assertTrue(fits(strictest_fit(own), own))
                self.assertTrue(strictest_fit(own).within(script))
                if len(right) == 1:
                    self.same(only_fit(own).form, script.form)
                    self.assertIsNone(next_look(own))
                else:
                    self.assertIsNone(only_fit(own))
                    self.check_next(own, [SCRIPTS[number] for number in right])

    def test_sure(self):
        rng = random.Random(4)
        found = set()
        for looks in drawn(5, 300, 3, 4):
            right = right_ones(looks)
            shows = any(shown for _, _, shown in looks)
            for bag, town in rng.sample(WISHES, 12):
                answers = {seen()[number][bag, town] for number in right}
                if right or not shows:
                    # Without a LOOK that says True there are always some that ask for more.
                    wanted = None if len(answers) == 2 or not shows and True in answers else True in answers
                    self.same(sure(told(looks), county_of(bag), town), wanted)
                    self.same(sure(size=town, county=county_of(bag), looks=list(told(looks))), wanted)
                    found.add(wanted)
        self.same(found, {True, False, None})

    def test_without_one_that_says_true(self):
        for looks in list(drawn(6, 200, 0, 8)) + [()]:
            own = told(looks)
            self.same((strictest_fit(own), only_fit(own), how_many_fit(own)), (None, None, None))
            county, size = next_look(own)
            self.assertIn(size, county)
            rows = county.rows
            right = [script for script in list(SCRIPTS) + [Script.of(f"county {rows}"), Script.of(f"county {rows + 1}")]
                     if fits(script, own)]
            self.same({script.shows(county, size) for script in right}, {True, False})

    def test_no_looks(self):
        self.same((fits(Script(), ()), fits(Script.of("county 5"), []), strictest_fit([]), only_fit(()),
                   how_many_fit(()), sure((), County.of("1"), 1)), (True, True, None, None, None, None))

    def test_scripts_that_are_alike_count_once(self):
        looks = ((County.of("2"), 2, True), (County.of("1x9"), 1, False))
        same = looks + looks
        self.same((how_many_fit(looks), how_many_fit(same), only_fit(same).text), (1, 1, "town 2"))

    def test_no_town_ahead_of_unfit(self):
        wrong = ((County.of("5"), 5, True), (County.of("5x2"), 5, False))
        for looks in (wrong, wrong[:1], ()):
            for size in (4, 0, -1, GREAT):
                self.refused(NoTown, {"size": size}, sure, looks, County.of("1 5"), size)
                self.refused(NoTown, {"size": size}, sure, size=size, county=County.of("1 5"), looks=looks)
        self.refused(Unfit, {}, sure, wrong, County.of("1 5"), 5)

    def test_lists_for_tuples(self):
        looks = [[County.of("1 4 5"), 5, True], (County.of("1 4 5"), 4, False)]
        self.same((fits(Script.of("county 10; town 5"), looks), how_many_fit(looks), strictest_fit(looks).text),
                  (True, 105, "county 10; town 4; county 9; town 5"))
        self.same([own[1:] for own in looks], [[5, True], (4, False)])


class ManyLooks(Case):
    def test_six_that_say_false(self):
        # Against all Scripts with numbers to 10, by their SETs.
        rng = random.Random(7)
        scripts = [script_of(form) for form in forms_to(10)]
        some = [bag for bag in bags(10, 10) if sum(bag) > 5]
        for _ in range(25):
            hidden = rng.choice(scripts)
            looks = []
            for bag in rng.sample(some, 60):
                town = rng.choice(bag)
                shown = hidden.shows(county_of(bag), town)
                if [own[2] for own in looks].count(shown) < (2 if shown else 6):
                    looks.append((county_of(bag), town, shown))
            if any(shown for _, _, shown in looks):
                self.same(how_many_fit(looks), len([script for script in scripts if fits(script, looks)]))

    def test_great_counts(self):
        # Without anything hidden, just those between count; of 20 numbers with great gaps there are very many.
        county = County([(size, GREAT + size) for size in range(1, 21)])
        low = Script.of("; ".join([f"town {size}; county {county.rows_from(size)}" for size in range(1, 21)]))
        looks = ((county, 20, True),)
        self.same(strictest_fit(looks).form, low.form)
        self.same(how_many_fit(looks), many_between(low, Script()))
        self.assertGreater(how_many_fit(looks), 10 ** 700)
        hides = ((County.of("20"), 20, False), (County(((1, 10 ** 40), (20, 7))), 20, False))
        alone, more = Script.of("town 20"), Script.of(f"county {10 ** 40 + 140}; town 20; county 140")
        wanted = many_between(low, Script())
        for barred in (alone, more):
            wanted -= many_between(low | barred, Script())
        wanted += many_between(low | alone | more, Script())
        self.same(how_many_fit(looks + hides), wanted)

    def test_great_numbers(self):
        for looks in drawn(8, 300, 3, 4):
            own = great_looks(looks)
            right = right_ones(looks)
            if not any(shown for _, _, shown in looks):
                self.same((strictest_fit(own), only_fit(own), how_many_fit(own)), (None, None, None))
            elif not right:
                for call in (strictest_fit, only_fit):
                    self.refused(Unfit, {}, call, own)
                self.assertIsNone(next_look(own))
                continue
            else:
                low = strictest_fit(own)
                self.assertTrue(fits(low, own))
                # The sizes are all multiples, so floors stay the same up to each of them.
                self.same(low.floors, tuple([(size * GREAT, rows * GREAT)
                                             for size, rows in strictest_fit(told(looks)).floors]))
            found = next_look(own)
            if found is None:
                self.same(only_fit(own).text, strictest_fit(own).text)
            else:
                self.assertIsNone(only_fit(own))
                self.assertIn(found[1], found[0])
                self.assertIsNone(sure(own, found[0], found[1]))

    def test_one_town_of_great_size(self):
        looks = ((County(((10 ** 40, 1),)), 10 ** 40, True), (County(((10 ** 40 - 1, 1),)), 10 ** 40 - 1, False))
        self.same(strictest_fit(looks).text, f"town {10 ** 40}")
        self.same((sure(looks, County(((10 ** 40 + 1, 1),)), 10 ** 40 + 1),
                   sure(looks, County(((10 ** 40 - 2, 1),)), 10 ** 40 - 2)), (True, False))


class Tables(Case):
    def test_each_is_told_back(self):
        for most in range(1, 13):
            table = telling_table(most)
            self.assertIsInstance(table, tuple)
            self.assertLessEqual(len(table), 200)
            forms = forms_to(most)
            found = {}
            for form in forms:
                script = script_of(form)
                found[tuple([script(county).runs for county in table])] = script
            self.same(len(found), len(forms))
            # All of the smaller ones, some of the many greater ones.
            for told_runs in sorted(found)[::1 if most < 9 else 29]:
                script = found[told_runs]
                back = read_off(most, tuple([County(runs) for runs in told_runs]))
                self.same(back.text, script.text)

    def test_the_same_again(self):
        for most in (1, 5, 12):
            self.assertEqual(telling_table(most), telling_table(most=most))

    def test_what_no_script_shows(self):
        rng = random.Random(9)
        for most in (1, 2, 4, 6):
            table = telling_table(most)
            right = {tuple([script(county).runs for county in table])
                     for script in [script_of(form) for form in forms_to(most)]}
            for _ in range(150):
                script = script_of(rng.choice(forms_to(most + 2)))
                shown = [script(county) for county in table]
                place = rng.randrange(len(table))
                shown[place] = rng.choice((County(), table[place], County.of("1"), shown[place], County.of("77")))
                if tuple([county.runs for county in shown]) in right:
                    self.same([read_off(most, shown)(county).runs for county in table], [own.runs for own in shown])
                else:
                    self.refused(Unfit, {}, read_off, most, shown)

    def test_more_or_less_than_the_table(self):
        shown = [Script.of("town 2")(county) for county in telling_table(4)]
        self.same(read_off(4, shown).text, "town 2")
        self.same(read_off(told=tuple(shown), most=4).text, "town 2")
        for wrong in ((), shown[:-1], shown + [County()], shown + shown, [County()] * len(shown)):
            self.refused(Unfit, {}, read_off, 4, wrong)

    def test_numbers_above_most(self):
        for most in range(1, 6):
            for form in forms_to(most + 2):
                if form[-1][1] > most:
                    shown = [script_of(form)(county) for county in telling_table(most)]
                    self.refused(Unfit, {}, read_off, most, shown)


class Searches(Case):
    def find(self, hidden, most, looked=True):
        """Look for a Script; returns how many answers it took."""
        search = Search(most)
        numbers = hidden.least
        many = 0
        told_looks = []
        while search.script is None:
            ask = search.ask
            self.same((ask.__class__, len(ask)), (tuple, 2))
            county, size = ask
            self.assertIn(size, county)
            self.same((search.ask[0].runs, search.ask[1], len(search)), (county.runs, size, many))
            if looked:
                self.assertEqual({own.shows(county, size) for own in SCRIPTS
                                  if own.floor(1) <= most and fits(own, told_looks)}, {True, False})
            shown = hidden.shows(county, size)
            told_looks.append((county, size, shown))
            self.assertIsNone(search.tell(shown))
            many += 1
        self.same((search.script.text, search.ask, len(search)), (hidden.plain.text, None, many))
        self.same(hidden.least, numbers)
        for shown in (True, False):
            self.refused(Known, {}, search.tell, shown)
        self.refused(Known, {}, search.tell, shown=True)
        self.same((search.script.text, search.ask, len(search)), (hidden.plain.text, None, many))
        return many

    def most_answers(self, hidden, most):
        """So many answers are enough."""
        length = 0
        while 2 ** length < most:
            length += 1
        return (2 * len(hidden.form) + 1) * length

    def test_each_small_script(self):
        for script in SCRIPTS:
            for most in (script.floor(1), 7):
                self.assertLessEqual(self.find(script, most), self.most_answers(script, most))

    def test_greater_mosts(self):
        for script in SCRIPTS:
            for most in (8, 9, 16, 1000, 10 ** 40):
                self.assertLessEqual(self.find(script, most, False), self.most_answers(script, most))

    def test_great_scripts(self):
        rng = random.Random(10)
        for _ in range(60):
            most = rng.choice((50, 1000, 10 ** 20, 10 ** 40))
            ends = sorted(rng.sample(range(1, 50), 2 * rng.randint(1, 8))) if most == 50 else sorted(
                {rng.randint(1, most) for _ in range(2 * rng.randint(1, 20))})
            runs = [(first, last - 1) for first, last in zip(ends[::2], ends[1::2])]
            form = []
            for first, last in runs:
                if first <= last and (not form or form[-1][1] + 1 < first):
                    form.append((first, last))
            if form:
                script = script_of(form)
                self.assertLessEqual(self.find(script, most, False), self.most_answers(script, most))

    def test_the_ends(self):
        for most in (1, 2, 3, 10 ** 40):
            for form in (((1, 1),), ((most, most),), ((1, most),), ((max(1, most - 1), most),)):
                self.find(script_of(form), most, False)
        search = Search(1)
        self.same((search.script.text, search.ask, len(search)), ("-", None, 0))
        self.refused(Known, {}, search.tell, True)

    def test_grown_ones(self):
        for script in SCRIPTS[::5]:
            self.find(grown(script), 7 * GREAT, False)

    def test_both_answers_can_come_of_great_ones(self):
        # Whatever is answered, a Script with numbers up to most is found that says just so.
        rng = random.Random(11)
        for most in (2, 3, 5, 20, 10 ** 12, 10 ** 40):
            for _ in range(15):
                search = Search(most=most)
                looks = []
                while search.ask is not None and len(search) < 400:
                    shown = rng.random() < 0.5
                    looks.append((*search.ask, shown))
                    search.tell(shown=shown)
                if search.script is not None:
                    self.assertTrue(fits(search.script, looks))
                    self.assertLessEqual(search.script.floor(1), most)

    def test_two_searches_do_not_meet(self):
        one, other = Search(9), Search(9)
        self.assertEqual(one.ask, other.ask)
        before = other.ask
        one.tell(True)
        self.same((len(one), len(other)), (1, 0))
        self.assertEqual(other.ask, before)

    def test_properties_have_no_setters(self):
        search = Search(9)
        for name in ("ask", "script"):
            with self.assertRaises(AttributeError):
                setattr(search, name, None)


class Interface(Case):
    def test_they_are_defined_in_the_file(self):
        for name in ("fits", "strictest_fit", "sure", "only_fit", "next_look", "how_many_fit", "telling_table",
                     "read_off", "Search"):
            self.assertEqual(vars(tells)[name].__module__, "smalltowns.tells")
        for name in ("tell", "ask", "script", "__len__"):
            self.assertIn(name, vars(Search))


if __name__ == "__main__":
    unittest.main()
