"""[5] as far as it speaks of Scripts, and [2] of the same."""

import itertools
import unittest

from helper import Case
from models import bags, county_of, inside, left_by, looks, rules_of, rules_to, script_by

from smalltowns import scripts
from smalltowns.counties import County, shown
from smalltowns.errors import BadText, NoPlace, NoTown
from smalltowns.scripts import Script
from smalltowns.steps import Step

GREAT = 10 ** 40

FIRST = "county 10; town 5"
OTHER = "town 5; county 10"


class Examples(Case):
    """What DOC.md shows in [5] of Scripts."""

    def setUp(self):
        self.first, self.other = Script.of(FIRST), Script.of(OTHER)

    def test_the_order_of_two_steps(self):
        first, other = self.first, self.other
        self.same((first(County.of("1 4 5")).text, other(County.of("1 4 5")).text, first.shows(County.of("1 4 5"), 5),
                   first.shows(County.of("1 4 5"), 4), first == other), ("5", "-", True, False, False))

    def test_three_steps(self):
        again = Script.of("county 10; town 5; county 8")
        table = (County.of("2 8"), County.of("3 7"), County.of("4 5"), County.of("5x3"))
        self.same(([own.text for own in again.table(table)], again(County.of("3 7")).text), (["8", "5x3"], "-"))

    def test_alike(self):
        self.same((Script.of("town 5; county 5") == Script.of("town 5"),
                   Script.of("county 10; county 7") == Script.of("county 10"),
                   Script.of("town 2; county 3") == Script.of("county 3; town 2")), (True, True, False))

    def test_operators(self):
        first, other = self.first, self.other
        self.same(((first >> Step.of("county 8")).text, len(first >> other), first[1].text, (first * 1).text,
                   (first * 2).text, (first * 10 ** 40).text, (first * 0).text),
                  ("county 10; town 5; county 8", 4, "town 5", "county 10; town 5", "town 5; county 10",
                   "town 5; county 10", "-"))

    def test_errors(self):
        self.refused(BadText, {}, Script.of, "town 5;county 10")
        self.refused(NoPlace, {"place": 2}, lambda: self.first[2])
        self.refused(NoTown, {"size": 3}, self.first.shows, County.of("1 4 5"), 3)


class Making(Case):
    def test_no_one_and_many_steps(self):
        many = [Step(("town", "county")[number % 2], number * number + 1) for number in range(40)]
        for steps in ((), (Step("town", 5),), (Step("county", GREAT),), tuple(many)):
            for script in (Script(steps), Script(steps=steps), Script(list(steps))):
                self.same((len(script), script.steps.__class__), (len(steps), tuple))
                self.assertEqual(script.steps, steps)
                self.same(script.text, "; ".join(step.text for step in steps) or "-")
        for script in (Script(), Script(()), Script([]), Script.of("-"), Script(steps=())):
            self.same((script.steps, script.text, len(script)), ((), "-", 0))

    def test_the_text_gives_the_script_back(self):
        texts = ["-", "town 1", "county 1", f"town {GREAT}", f"county {GREAT}; town 1; county 1", FIRST, OTHER,
                 "; ".join(f"town {number}; county {GREAT - number}" for number in range(1, 21))]
        for text in texts:
            for script in (Script.of(text), Script.of(text=text)):
                self.same(script.text, text)
                self.assertEqual([step.text for step in script.steps], [] if text == "-" else text.split("; "))

    def test_texts_that_are_none(self):
        for text in ("", " ", "- ", " -", "--", "-; town 5", "town 5; -", "-; -", "town 5;county 10", "town 5 ; county 10",
                     "town 5;  county 10", "town 5  ; county 10", "town 5; ; county 10", "town 5; ; ", "; ", ";",
                     "town 5;; county 10", "town 5; county 10;", "town 5; county 10; ", "; town 5", ";town 5",
                     "town 5, county 10", "town 5 county 10", "town 5county 10", "town 5\ncounty 10", "town 5\n",
                     "town 5; county 10\n", "town 5; country 10", "town 5; county 0", "town 0; county 5", "town 05",
                     "town 5; county 010", "town; county", "town 5; county", "town 5; land 3", "Town 5", "5", "town -5",
                     "town 5; county +1", "(town 5)", "town 5; (county 10)", "(town 5) x 2", "* ", "town 5; town x",
                     " town 5", "town 5 ", "town 5; county 10 ", "town 5;\tcounty 10", "town 5; county \u0665",
                     "town 5 ;county 10"):
            with self.subTest(text):
                self.refused(BadText, {}, Script.of, text)

    def test_a_list_changed_afterwards_changes_nothing(self):
        steps = [Step("town", 5), Step("county", 10)]
        script = Script(steps)
        steps[0] = Step("town", 9)
        steps.append(Step("county", 99))
        self.same((script.text, script.form, len(script)), (OTHER, ((6, 10),), 2))

    def test_properties_have_no_setters(self):
        script = Script.of(FIRST)
        for name in ("steps", "text", "form", "least", "floors", "plain"):
            value = getattr(script, name)
            with self.subTest(name), self.assertRaises(AttributeError):
                setattr(script, name, value)
        self.same(script.text, FIRST)


class Places(Case):
    def test_the_steps_by_place(self):
        for many in (1, 2, 40):
            script = Script([Step("county", number + 1) for number in range(many)])
            self.same([script[place].text for place in range(many)],
                      [f"county {number + 1}" for number in range(many)])
            self.assertEqual(script[many - 1], Step("county", many))

    def test_places_that_are_not_there(self):
        for text, places in (("-", (0, -1, 1, GREAT)), (FIRST, (2, 3, -1, -2, -3, GREAT, -GREAT))):
            script = Script.of(text)
            for place in places:
                with self.subTest(text=text, place=place):
                    self.refused(NoPlace, {"place": place}, lambda: script[place])
            self.same(script.text, text)

    def test_it_can_not_be_gone_through(self):
        for script in (Script(), Script.of(FIRST)):
            for go in (iter, list, tuple, set, lambda own: [step for step in own], lambda own: [*own], sorted):
                with self.assertRaises(TypeError):
                    go(script)


class Showing(Case):
    def test_against_a_plain_going_through(self):
        some = bags(7, 5)
        for rules in rules_to(4, 3) + [(("county", 6), ("town", 2), ("county", 4), ("town", 3), ("county", 5))]:
            script = script_by(rules)
            for bag in some:
                self.assertEqual(script(county_of(bag)), county_of(left_by(rules, bag)), (rules, bag))

    def test_three_steps_in_any_order(self):
        for rules in itertools.permutations((("town", 2), ("town", 4), ("county", 5), ("county", 7)), 3):
            script = script_by(rules)
            for bag in bags(8, 6):
                self.assertEqual(script(county_of(bag)), county_of(left_by(rules, bag)), (rules, bag))

    def test_forty_steps(self):
        # Each county step asks just what is left then, until the last one asks one row more.
        rules = []
        for size in range(1, 21):
            rules += [("town", size), ("county", sum(range(size, 26)))]
        bag = list(range(1, 26))
        self.same(script_by(rules)(county_of(bag)).text, " ".join(str(town) for town in range(20, 26)))
        self.same(script_by(rules[:-1] + [("county", rules[-1][1] + 1)])(county_of(bag)).runs, ())

    def test_great_numbers(self):
        script = Script((Step("town", GREAT), Step("county", GREAT * GREAT)))
        self.same(script(County(((GREAT, GREAT), (1, GREAT)))).runs, ((GREAT, GREAT),))
        self.same(script(County(((GREAT, GREAT - 1), (GREAT - 1, GREAT)))).runs, ())

    def test_no_steps_show_all(self):
        for text in ("-", "5", "1x9 7"):
            self.same(Script()(County.of(text)).text, text)

    def test_tables(self):
        script = Script.of(FIRST)
        table = [county_of(bag) for bag in bags(11, 6)]
        wanted = [script(county) for county in table]
        self.assertEqual(script.table(table), shown(wanted))
        self.assertEqual(script.table(tuple(table)), tuple([own for own in wanted if own.runs]))
        self.same(script.table(()), ())
        self.same(script.table([County(), County.of("4 5"), County.of("1x9")]), ())
        self.same([own.text for own in script.table(table=[County.of("5 9"), County(), County.of("5x2")])],
                  ["5 9", "5x2"])
        self.same([own.text for own in Script().table((County.of("2"), County(), County.of("1")))], ["2", "1"])

    def test_which_sizes_are_shown(self):
        for text in (FIRST, OTHER, "-", "county 6; town 2; county 5"):
            script = Script.of(text)
            for bag in bags(7, 6):
                left = left_by(rules_of(script), bag)
                for size in range(-1, 9):
                    if size in bag:
                        self.same(script.shows(county_of(bag), size), size in left)
                    else:
                        self.refused(NoTown, {"size": size}, script.shows, county_of(bag), size)

    def test_of_sizes_that_are_not_there(self):
        script = Script.of("town 5")
        self.refused(NoTown, {"size": 1}, script.shows, County(), 1)
        self.refused(NoTown, {"size": GREAT}, script.shows, County.of("4 6"), GREAT)
        self.refused(NoTown, {"size": -GREAT}, script.shows, size=-GREAT, county=County.of("4 6"))
        self.same(script.shows(size=4, county=County.of("4 6")), False)

    def test_nothing_that_goes_in_changes(self):
        script, county = Script.of(FIRST), County.of("1 4 5")
        table = [county, County.of("3"), county]
        self.same([own.text for own in script.table(table)], ["5", "5"])
        self.same([own.text for own in table], ["1 4 5", "3", "1 4 5"])
        self.same(script(county=county).text, "5")
        self.assertEqual(script(county), script(county))
        self.same((script.text, county.text), (FIRST, "1 4 5"))


class Together(Case):
    def test_behind_one_another(self):
        for one, other in itertools.product(("-", "town 5", FIRST, "county 3; town 2; county 1"), repeat=2):
            told = [text for text in (one, other) if text != "-"]
            self.same((Script.of(one) >> Script.of(other)).text, "; ".join(told) or "-")

    def test_a_step_behind(self):
        for text in ("-", "town 5", FIRST):
            for step in (Step("town", 1), Step("county", GREAT)):
                self.same((Script.of(text) >> step).text, step.text if text == "-" else f"{text}; {step.text}")

    def test_it_shows_what_the_second_leaves_of_the_first(self):
        parts = [Script.of(text) for text in ("-", "town 3", "county 4", "county 5; town 2", "town 2; county 6; town 4")]
        for one, other in itertools.product(parts, repeat=2):
            for bag in bags(8, 6):
                county = county_of(bag)
                self.assertEqual((one >> other)(county), other(one(county)))

    def test_what_is_put_together_stays_as_it_is(self):
        one, other = Script.of(FIRST), Script.of("town 7")
        one >> other
        one >> Step("town", 9)
        longer = one
        longer >>= other
        self.same((one.text, other.text, longer.text), (FIRST, "town 7", "county 10; town 5; town 7"))

    def test_nothing_else_can_be_put_behind(self):
        for thing in (None, 5, "town 5", (), County.of("5")):
            with self.assertRaises(TypeError):
                Script.of(FIRST) >> thing

    def test_eighty_steps(self):
        half = Script([Step("county", number) for number in range(40, 0, -1)])
        self.same(len(half >> half), 80)
        self.assertEqual(half >> half, Script.of("county 40"))


class Alike(Case):
    def test_exactly_if_the_same_is_shown(self):
        some = bags(8, 5)
        found = [(script_by(rules), looks(rules, some)) for rules in rules_to(4, 2)]
        for (one, here), (other, there) in itertools.product(found, repeat=2):
            self.same((one == other, one != other), (here == there, here != there))
            self.same(one.within(other), inside(here, there))

    def test_three_steps(self):
        some = bags(8, 4)
        kinds = {}
        for rules in rules_to(3, 3):
            kinds.setdefault(looks(rules, some), []).append(script_by(rules))
        firsts = [own[0] for own in kinds.values()]
        for group in kinds.values():
            for script in group:
                self.assertEqual([script == other for other in firsts], [other is group[0] for other in firsts])

    def test_great_numbers(self):
        self.assertEqual(Script.of(f"town {GREAT}; county {GREAT}"), Script.of(f"town {GREAT}"))
        self.assertNotEqual(Script.of(f"town {GREAT}; county {GREAT + 1}"), Script.of(f"town {GREAT}"))
        self.assertNotEqual(Script.of(f"county {GREAT}"), Script.of(f"county {GREAT - 1}"))

    def test_a_script_equals_nothing_else(self):
        script = Script.of("town 5")
        for thing in (None, True, False, 5, "", "town 5", (), [], (Step("town", 5),), [Step("town", 5)], Step("town", 5),
                      County.of("5"), ((1, 5),), {}):
            with self.subTest(thing):
                self.same((script == thing, thing == script, script != thing, thing != script),
                          (False, False, True, True))


class Times(Case):
    def test_against_putting_it_behind_itself(self):
        some = bags(9, 5)
        for rules in rules_to(3, 3):
            script = script_by(rules)
            for times in (0, 1, 2, 3, 4):
                told = script * times
                self.assertEqual(looks(rules_of(told), some), looks(rules * times, some), (rules, times))
                self.same(told.text, told.plain.text)

    def test_twice_is_the_same_as_more(self):
        for text in ("-", FIRST, OTHER, "county 9; town 2; county 7; town 4"):
            script = Script.of(text)
            self.same([(script * times).text for times in (3, 4, 10, GREAT)], [(script * 2).text] * 4)

    def test_no_times(self):
        for text in ("-", FIRST, f"county {GREAT}"):
            self.same((Script.of(text) * 0).steps, ())

    def test_once_is_plain(self):
        self.same((Script.of("county 1; town 3; county 3; town 2") * 1).text, "town 3")

    def test_great_numbers(self):
        script = Script.of(f"county {GREAT + 5}; town {GREAT}")
        self.same([(script * times).text for times in (0, 1, 2, GREAT)],
                  ["-", script.text] + [f"town {GREAT}; county {GREAT + 5}"] * 2)

    def test_it_stays_as_it_is(self):
        script = Script.of(FIRST)
        twice = script
        twice *= 2
        self.same((script.text, twice.text), (FIRST, OTHER))

    def test_times_nothing_else(self):
        for thing in (None, "2", (), Script()):
            with self.assertRaises(TypeError):
                Script.of(FIRST) * thing


class Interface(Case):
    def test_it_is_defined_in_the_file(self):
        self.assertEqual(Script.__module__, "smalltowns.scripts")
        self.assertIs(vars(scripts)["Script"], Script)

    def test_all_methods_are_in_the_class(self):
        self.assertEqual(Script.__bases__, (object,))
        for name in ("of", "steps", "text", "form", "least", "floors", "plain", "floor", "table", "shows", "within",
                     "__len__", "__getitem__", "__call__", "__rshift__", "__eq__", "__mul__", "__and__", "__or__"):
            self.assertIn(name, vars(Script))
        self.assertIsInstance(vars(Script)["of"], staticmethod)
        for name in ("steps", "text", "form", "least", "floors", "plain"):
            self.assertIsInstance(vars(Script)[name], property)


if __name__ == "__main__":
    unittest.main()
