"""[6], and [2] of the same."""

import unittest

from helper import Case
from models import (GREAT, bags, county_of, floor_by_steps, form_of_set, forms_to, grown, least_by_steps, left_by, looks,
                    rules_of, rules_to, script_by, set_of)

from smalltowns import forms
from smalltowns.counties import County
from smalltowns.forms import is_form, script_of
from smalltowns.scripts import Script

MANY = "county 12; town 3; county 8; county 5; town 5; county 7; town 2"


class Examples(Case):
    """What DOC.md shows in [6]."""

    def test_first(self):
        first = Script.of("county 10; town 5")
        self.same((first.form, first.least, first.floors, first.floor(1), first.floor(2), first.floor(5),
                   first.floor(6), first.plain.text),
                  (((1, 4), (10, 10)), 5, ((1, 10), (5, 5)), 10, 5, 5, 0, "county 10; town 5"))

    def test_others(self):
        other = Script.of("town 5; county 10")
        self.same((other.form, other.floors, Script().form, Script().floors, Script.of("county 1; town 1").plain.text),
                  (((6, 10),), ((5, 10),), ((1, 1),), ((1, 1),), "-"))

    def test_many(self):
        many = Script.of(MANY)
        self.same((many.form, many.floors, many.plain.text),
                  (((3, 4), (6, 7), (12, 12)), ((1, 12), (3, 8), (5, 7)),
                   "county 12; town 3; county 8; town 5; county 7"))

    def test_is_form(self):
        self.same((is_form(((1, 4), (10, 10))), is_form(((1, 4), (5, 9))), is_form(()), is_form(((0, 2),)),
                   is_form([(1, 2)])), (True, False, False, False, False))

    def test_script_of(self):
        self.same((script_of(((2, 3), (6, 6))).text, script_of(((7, 7),)).text, script_of(((1, 10 ** 40),)).least),
                  ("county 6; town 3; county 4", "county 7", 10 ** 40))

    def test_what_stands_below_them(self):
        first, county = Script.of("county 10; town 5"), County.of("1 4 5")
        self.same([county.rows_from(size) for size in range(1, 6)], [10, 9, 9, 9, 5])
        self.same((first(county).text, first(first(county)).text), ("5", "-"))

    def test_one_step(self):
        for number in (1, 2, 5, GREAT):
            self.same(Script.of(f"town {number}").form, ((1, number),))
            self.same(Script.of(f"county {number}").form, ((number, number),))


class Asked(Case):
    """Least and floors against the steps, for all Scripts of up to three steps with small numbers."""

    def test_a_town_is_shown_exactly_if_it_is_asked_so(self):
        some = bags(8, 5)
        for rules in rules_to(4, 3):
            script = script_by(rules)
            floors = [script.floor(size) for size in range(1, script.least + 1)]
            for bag in some:
                county = county_of(bag)
                holds = all(county.rows_from(size) >= rows for size, rows in enumerate(floors, 1))
                wanted = [town for town in bag if town >= script.least] if holds else []
                self.assertEqual(left_by(rules, bag), wanted, (rules, bag))

    def test_each_size(self):
        for rules in rules_to(4, 3) + rules_to(7, 2):
            script = script_by(rules)
            self.same(script.least, least_by_steps(rules))
            for size in range(1, 10):
                self.same(script.floor(size), floor_by_steps(rules, size))
                self.same(script.floor(size=size), floor_by_steps(rules, size))

    def test_floors_by_stretches(self):
        for rules in rules_to(4, 3) + rules_to(7, 2):
            script = script_by(rules)
            told = [floor_by_steps(rules, size) for size in range(1, script.least + 1)]
            ends = [size for size, rows in enumerate(told, 1) if told[size:size + 1] != [rows]]
            self.same(script.floors, tuple([(size, told[size - 1]) for size in ends]))

    def test_the_form_tells_the_set(self):
        for rules in rules_to(4, 3) + rules_to(7, 2):
            script = script_by(rules)
            numbers = [floor_by_steps(rules, size) - size + 1 for size in range(1, script.least + 1)]
            self.same(script.form, form_of_set(numbers))
            self.same(is_form(script.form), True)

    def test_many_steps(self):
        for many in (7, 20, 40):
            rules = [(("town", "county")[place * place * place % 7 % 2], (place * 37 + many) % 101 + place)
                     for place in range(1, many + 1)]
            script = script_by(rules)
            for size in range(1, script.least + 2):
                self.same(script.floor(size), floor_by_steps(rules, size))
            self.same(set_of(script.form), tuple([script.floor(size) - size + 1 for size in range(1, script.least + 1)]))

    def test_forty_steps_that_all_count(self):
        rules = []
        for number in range(1, 21):
            rules += [("town", number * GREAT), ("county", 99 * GREAT - number)]
        script = script_by(rules)
        self.same(script.floors, tuple([(number * GREAT, 99 * GREAT - number) for number in range(1, 21)]))
        self.same(len(script.form), 20)
        self.assertEqual(rules_of(script.plain), rules)
        self.same(script_of(script.form).text, script.text)


class Plain(Case):
    def test_it_is_the_only_one_with_so_few_steps(self):
        shortest = {}
        some = bags(8, 5)
        # From few steps to many: the first of a kind is as short as can be.
        for rules in rules_to(4, 3):
            same = shortest.setdefault(looks(rules, some), [])
            if not same or len(same[0]) == len(rules):
                same.append(rules)
        for same in shortest.values():
            self.assertEqual(len(same), 1)
        for rules in rules_to(4, 3):
            self.assertEqual(rules_of(script_by(rules).plain), list(shortest[looks(rules, some)][0]))

    def test_it_is_alike_and_plain_itself(self):
        for rules in rules_to(3, 3):
            script = script_by(rules)
            plain = script.plain
            self.assertIs(plain.__class__, Script)
            self.assertEqual(plain, script)
            self.same((plain.form, plain.floors, plain.least, plain.plain.text),
                      (script.form, script.floors, script.least, plain.text))

    def test_the_script_keeps_its_own_steps(self):
        script = Script.of(MANY)
        script.plain
        self.same((script.text, len(script)), (MANY, 7))


class GreatNumbers(Case):
    """The same with all numbers multiplied: nothing can be counted one by one there."""

    def test_floors(self):
        for rules in rules_to(4, 3):
            script = script_by([(kind, least * GREAT) for kind, least in rules])
            great = rules_of(script)
            self.same(script.least, least_by_steps(great))
            for size in [1, 2] + [number * GREAT + more for number in range(1, 6) for more in (-1, 0, 1)]:
                self.same(script.floor(size), floor_by_steps(great, size))
            ends = [size for size, _ in script.floors]
            begins = [1] + [size + 1 for size in ends]
            self.same([script.floor(size) for size in ends], [rows for _, rows in script.floors])
            self.same([script.floor(size) for size in begins], [rows for _, rows in script.floors] + [0])
            self.same([rows for _, rows in script.floors], sorted(set(rows for _, rows in script.floors), reverse=True))

    def test_form_and_plain(self):
        for rules in rules_to(4, 3):
            script = script_by([(kind, least * GREAT) for kind, least in rules])
            self.same(is_form(script.form), True)
            self.same((script.form[0][0], script.form[-1][1]),
                      (script.floor(script.least) - script.least + 1, script.floor(1)))
            self.same(sum(last - first + 1 for first, last in script.form), script.least)
            self.same(script_of(script.form).text, script.plain.text)
            # A step of 1 does nothing, but it does when it is multiplied.
            if all(least > 1 for kind, least in rules):
                self.same(script.plain.text, grown(script_by(rules).plain).text)

    def test_more_than_it_is_said_to_take(self):
        script = Script.of(f"county {10 ** 500}; town {10 ** 300}; county {10 ** 400}")
        self.same(script.floors, ((1, 10 ** 500), (10 ** 300, 10 ** 400)))
        self.same(script_of(script.form).text, script.text)


class IsForm(Case):
    def test_forms(self):
        for form in forms_to(6) + [((GREAT, GREAT),), ((1, GREAT), (GREAT + 2, GREAT * GREAT))]:
            self.same(is_form(form), True)
            self.same(is_form(thing=form), True)

    def test_against_all_pairs_of_small_numbers(self):
        told = set(forms_to(4))
        pairs = [(first, last) for first in range(-1, 5) for last in range(-1, 5)]
        things = [(one,) for one in pairs] + [(one, other) for one in pairs for other in pairs]
        for thing in things + [()]:
            self.same(is_form(thing), thing in told)

    def test_runs_that_touch_overlap_or_descend(self):
        for thing in (((1, 4), (5, 9)), ((1, 4), (4, 9)), ((1, 4), (2, 3)), ((1, 4), (1, 4)), ((10, 10), (1, 4)),
                      ((4, 1),), ((1, 2), (9, 8)), ((1, 1), (3, 3), (4, 4)), ((1, 1), (5, 5), (3, 3)),
                      ((GREAT, GREAT), (GREAT + 1, GREAT + 2)), ((0, 0),), ((-3, -1),), ((0, 2), (4, 5))):
            with self.subTest(thing):
                self.same(is_form(thing), False)

    def test_other_things(self):
        deep = ()
        for _ in range(12):
            deep = (deep,)
        for thing in (None, True, False, 0, 1, GREAT, -1, "", "town 5", "((1, 4),)", (), [], [(1, 2)], [[1, 2]], ([1, 2],),
                      ((1, 4), [10, 10]), ((1, 4), (10, 10), []), (1, 4), (1,), ((1,),), ((1, 2, 3),), (((1, 4),),),
                      ((True, 4),), ((1, True),), ((True, True),), ((1, 4), (6, None)), ((1, "4"),), (("1", "4"),),
                      ("14",), ("ab", "cd"), ((None, None),), (None,), ((),), ((1, 4), ()), ((1, (4,)),), ((1, [4]),),
                      ((False, 2),), (((1, 1), (3, 3)),), deep, [deep], (True,), ((1, 4), True)):
            with self.subTest(thing):
                self.same(is_form(thing), False)


class ScriptOf(Case):
    def test_each_form_gives_itself_back(self):
        for form in forms_to(6):
            script = script_of(form)
            self.assertIs(script.__class__, Script)
            self.same((script.form, script_of(form=form).form), (form, form))
            self.same(script.text, script.plain.text)

    def test_it_shows_what_the_form_says(self):
        for form in forms_to(6):
            numbers = set_of(form)
            rules = rules_of(script_of(form))
            self.same([floor_by_steps(rules, size) - size + 1 for size in range(1, len(numbers) + 1)], list(numbers))
            self.same(least_by_steps(rules), len(numbers))

    def test_great_forms(self):
        for form in forms_to(5):
            great = tuple([(first * GREAT, last * GREAT) for first, last in form])
            self.same(script_of(great).form, great)
            self.same(script_of(great).text, script_of(great).plain.text)

    def test_many_runs(self):
        form = tuple([(3 * number, 3 * number + number % 2) for number in range(1, 41)])
        self.same(script_of(form).form, form)

    def test_lists_for_tuples(self):
        for form in ([(1, 4), (10, 10)], ((1, 4), [10, 10]), [[1, 4], [10, 10]]):
            self.same(script_of(form).text, "county 10; town 5")
            self.same(script_of(form).form, ((1, 4), (10, 10)))

    def test_a_list_changed_afterwards_changes_nothing(self):
        run = [1, 4]
        form = [run, [10, 10]]
        script = script_of(form)
        self.same(form, [[1, 4], [10, 10]])
        run[1] = 7
        form.append([20, 20])
        self.same((script.form, script.text), (((1, 4), (10, 10)), "county 10; town 5"))


class Interface(Case):
    def test_they_are_defined_in_the_file(self):
        for name in ("is_form", "script_of"):
            self.assertEqual(vars(forms)[name].__module__, "smalltowns.forms")


if __name__ == "__main__":
    unittest.main()
