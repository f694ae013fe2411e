"""[5] as far as it speaks of Steps, and [2] of the same."""

import unittest

from helper import Case

from smalltowns import steps
from smalltowns.counties import County
from smalltowns.errors import BadStep, BadText
from smalltowns.steps import Step

GREAT = 10 ** 40


class Examples(Case):
    """What DOC.md shows in [5] without a Script."""

    def test_both_kinds(self):
        county = County(((5, 1), (8, 2), (2, 1), (8, 1)))
        self.same((Step.of("town 5")(county).text, Step("county", 31)(county).text,
                   Step.of("county 32")(county).text, Step("town", 9).text),
                  ("5 8x3", "2 5 8x3", "-", "town 9"))


class Making(Case):
    def test_what_it_tells(self):
        for kind in ("town", "county"):
            for least in (1, 2, 10, GREAT):
                for step in (Step(kind, least), Step(kind=kind, least=least), Step.of(f"{kind} {least}"),
                             Step.of(text=f"{kind} {least}")):
                    self.same((step.kind, step.least, step.text), (kind, least, f"{kind} {least}"))

    def test_other_kinds(self):
        for kind in ("", "land", "country", "Town", "COUNTY", "towns", "tow", "town ", " county", "town 5", "-"):
            for least in (1, 5, 0, GREAT):
                with self.subTest(kind=kind, least=least):
                    self.refused(BadStep, {"given": (kind, least)}, Step, kind, least)

    def test_least_below_one(self):
        for kind in ("town", "county"):
            for least in (0, -1, -GREAT):
                with self.subTest(kind=kind, least=least):
                    self.refused(BadStep, {"given": (kind, least)}, Step, kind, least)
                    self.refused(BadStep, {"given": (kind, least)}, Step, least=least, kind=kind)

    def test_texts_that_are_none(self):
        for text in ("", " ", "-", "town", "county", "town ", "county ", " 5", "5", "town5", "town  5", " town 5",
                     "town 5 ", "town 5 6", "town 0", "town 00", "town 05", "county 0", "county 010", "town -5",
                     "town +5", "county -1", "Town 5", "TOWN 5", "country 5", "land 3", "towns 5", "town\t5",
                     "town\n5", "town 5\n", "\ntown 5", "town 5.0", "town 1_0", "town x", "town five", "5 town",
                     "town 5; county 10", "town 5;", "town 5x2", "town \u0665", "town \u00b2", "town \uff15",
                     "county county 5", "town county", "townx 5", "(town 5)", "* 5", "town 1e3"):
            with self.subTest(text):
                self.refused(BadText, {}, Step.of, text)

    def test_texts_of_very_great_numbers(self):
        # More digits than int and str take at once.
        text = "county 7" + "0" * 5000
        self.assertTrue(Step.of(text).text == text)

    def test_properties_have_no_setters(self):
        step = Step("town", 5)
        for name, value in (("kind", "county"), ("least", 6), ("text", "town 6")):
            with self.subTest(name), self.assertRaises(AttributeError):
                setattr(step, name, value)
        self.same((step.kind, step.least, step.text), ("town", 5, "town 5"))


class Doing(Case):
    def setUp(self):
        self.county = County.of("2 5x2 8x3")

    def test_town(self):
        self.same([Step("town", least)(self.county).text for least in (1, 2, 3, 4, 5, 6, 7, 8, 9, GREAT)],
                  ["2 5x2 8x3"] * 2 + ["5x2 8x3"] * 3 + ["8x3"] * 3 + ["-"] * 2)

    def test_town_does_not_ask_for_the_rows_of_all(self):
        self.same(Step("town", 5)(County.of("4x100 5")).text, "5")

    def test_county(self):
        self.same([Step("county", least)(self.county).text for least in (1, 2, 8, 35, 36, 37, GREAT)],
                  ["2 5x2 8x3"] * 5 + ["-"] * 2)

    def test_county_does_not_ask_for_the_sizes(self):
        self.same(Step("county", 10)(County.of("1x10")).text, "1x10")
        self.same(Step("county", 10)(County.of("1x9")).text, "-")

    def test_great_numbers(self):
        county = County(((GREAT, GREAT), (1, GREAT)))
        self.same(Step("town", GREAT)(county).runs, ((GREAT, GREAT),))
        self.same(Step("county", GREAT)(county).runs, ((1, GREAT), (GREAT, GREAT)))
        self.same(Step("county", GREAT)(County(((1, GREAT),))).runs, ((1, GREAT),))
        self.same(Step("county", GREAT)(County(((1, GREAT - 1),))).runs, ())

    def test_without_towns(self):
        for step in (Step("town", 1), Step("town", GREAT), Step("county", 1), Step("county", GREAT)):
            self.same(step(County()).runs, ())
            self.assertIs(step(County()).__class__, County)

    def test_by_name(self):
        self.same((Step("town", 5)(county=self.county).text, Step("county", 37)(county=self.county).text),
                  ("5x2 8x3", "-"))

    def test_what_goes_in_stays_as_it_is(self):
        steps_done = (Step("town", 5), Step("county", 36), Step("county", 37))
        for step in steps_done:
            step(self.county)
            self.same(self.county.runs, ((2, 1), (5, 2), (8, 3)))
        self.same([step.text for step in steps_done], ["town 5", "county 36", "county 37"])

    def test_twice_the_same(self):
        step = Step("town", 5)
        self.assertEqual(step(self.county), step(self.county))

    def test_one_behind_another(self):
        county = County.of("1 4 5")
        self.same(Step.of("town 5")(Step.of("county 10")(county)).text, "5")
        self.same(Step.of("county 10")(Step.of("town 5")(county)).text, "-")


class Equal(Case):
    def test_with_steps(self):
        told = [(kind, least) for kind in ("town", "county") for least in (1, 5, GREAT)]
        for one in told:
            for other in told:
                a, b = Step(*one), Step.of(f"{other[0]} {other[1]}")
                self.same((a == b, b == a, a != b), (one == other, one == other, one != other))

    def test_steps_that_do_the_same_are_not_equal_for_it(self):
        self.same(Step("town", 1) == Step("county", 1), False)

    def test_a_step_equals_nothing_else(self):
        step = Step("town", 5)
        for thing in (None, True, False, 5, "", "town", "town 5", ("town", 5), ["town", 5], (), {},
                      County.of("5"), County()):
            with self.subTest(thing):
                self.same((step == thing, thing == step, step != thing, thing != step), (False, False, True, True))


class Interface(Case):
    def test_it_is_defined_in_the_file(self):
        self.assertEqual(Step.__module__, "smalltowns.steps")
        self.assertIs(vars(steps)["Step"], Step)

    def test_all_methods_are_in_the_class(self):
        self.assertEqual(Step.__bases__, (object,))
        for name in ("of", "kind", "least", "text", "__call__", "__eq__"):
            self.assertIn(name, vars(Step))
        self.assertIsInstance(vars(Step)["of"], staticmethod)
        for name in ("kind", "least", "text"):
            self.assertIsInstance(vars(Step)[name], property)


if __name__ == "__main__":
    unittest.main()
