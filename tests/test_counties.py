"""[4], and [2] as far as it speaks of counties."""

import itertools
import unittest

from helper import Case

from smalltowns import counties
from smalltowns.counties import County, is_runs, shown
from smalltowns.errors import BadRun, BadText
from smalltowns.steps import Step

GREAT = 10 ** 40


def bag(county):
    """All towns of a small County, one by one."""
    return [size for size, many in county.runs for _ in range(many)]


def small():
    """All Counties of sizes 1 to 3 with at most two towns of each."""
    return [County([(size, n) for size, n in zip((1, 2, 3), many) if n])
            for many in itertools.product(range(3), repeat=3)]


class Examples(Case):
    """What DOC.md shows in [4]."""

    def setUp(self):
        self.county = County(((5, 1), (8, 2), (2, 1), (8, 1)))

    def test_what_it_tells(self):
        county = self.county
        self.same((county.runs, county.text, county.rows, county.towns, len(county)),
                  (((2, 1), (5, 1), (8, 3)), "2 5 8x3", 31, 5, 3))

    def test_what_is_asked_of_sizes(self):
        county = self.county
        self.same((county[8], county[4], 5 in county, 6 in county, county.rows_from(5),
                   county.rows_from(9), county.towns_from(3), county.only(5).text),
                  (3, 0, True, False, 29, 0, 4, "5 8x3"))

    def test_sums_and_parts(self):
        county = self.county
        self.same(((county + County.of("5 9")).text, County.of("5 8x2").within(county),
                   County.of("5x2").within(county), County().text, County().rows),
                  ("2 5x2 8x3 9", True, False, "-", 0))

    def test_functions(self):
        self.same((is_runs(((2, 1), (5, 3))), is_runs(((5, 1), (2, 1))), is_runs(((2, 0),)), is_runs(()),
                   [own.text for own in shown((County(), self.county, County()))]),
                  (True, False, False, True, ["2 5 8x3"]))

    def test_errors(self):
        self.refused(BadRun, {"run": (4, 0)}, County, ((3, 1), (4, 0), (0, 1)))
        self.refused(BadText, {}, County.of, "5 5")
        self.refused(BadText, {}, County.of, "8x1")


class Making(Case):
    def test_runs_in_any_order(self):
        parts = ((5, 1), (8, 2), (2, 1), (8, 1), (5, 7))
        for order in itertools.permutations(parts):
            self.same(County(order).runs, ((2, 1), (5, 8), (8, 3)))

    def test_a_size_several_times(self):
        self.same(County(((3, 1), (3, 1), (3, 5))).runs, ((3, 7),))

    def test_no_towns(self):
        for county in (County(), County(()), County([]), County(runs=()), County.of("-")):
            self.same((county.runs, county.text, county.rows, county.towns, len(county)), ((), "-", 0, 0, 0))

    def test_great_numbers(self):
        county = County(((GREAT, GREAT), (1, GREAT), (GREAT, 1), (GREAT - 1, 1)))
        self.same(county.runs, ((1, GREAT), (GREAT - 1, 1), (GREAT, GREAT + 1)))
        self.same(county.rows, GREAT + GREAT - 1 + GREAT * (GREAT + 1))
        self.same(county.towns, 2 * GREAT + 2)
        self.same((county[GREAT], county[GREAT - 1], county[GREAT + 1]), (GREAT + 1, 1, 0))
        self.same(county.rows_from(2), GREAT - 1 + GREAT * (GREAT + 1))
        self.same(county.towns_from(GREAT), GREAT + 1)
        self.same(county.only(GREAT).runs, ((GREAT, GREAT + 1),))
        self.assertTrue(county.within(county + county))
        self.assertFalse((county + county).within(county))

    def test_sixty_sizes(self):
        county = County([(size, size) for size in range(60, 0, -1)])
        self.same(len(county), 60)
        self.same(county.rows, sum(size * size for size in range(1, 61)))
        self.same(County.of(county.text).runs, county.runs)

    def test_the_first_wrong_pair_is_kept(self):
        self.refused(BadRun, {"run": (0, 1)}, County, ((3, 1), (0, 1), (4, 0)))
        self.refused(BadRun, {"run": (4, 0)}, County, ((4, 0), (0, 1)))
        self.refused(BadRun, {"run": (0, 0)}, County, ((0, 0),))
        self.refused(BadRun, {"run": (-1, 2)}, County, ((-1, 2),))
        self.refused(BadRun, {"run": (2, -GREAT)}, County, ((2, 3), (2, -GREAT), (2, 0)))

    def test_the_wrong_pair_is_a_tuple_where_a_list_was_given(self):
        self.refused(BadRun, {"run": (4, 0)}, County, [[3, 1], [4, 0], [0, 1]])
        self.refused(BadRun, {"run": (0, 4)}, County, ([0, 4],))

    def test_wrong_pairs_are_not_made_up_for_by_others(self):
        self.refused(BadRun, {"run": (5, -1)}, County, ((5, 3), (5, -1)))

    def test_lists_for_tuples(self):
        self.same(County([[5, 1], (8, 2), [2, 1]]).runs, ((2, 1), (5, 1), (8, 2)))
        self.same(County(([5, 1],)).runs, ((5, 1),))

    def test_by_name(self):
        self.same(County(runs=[[5, 1]]).runs, ((5, 1),))
        self.same(County.of(text="2 5").runs, ((2, 1), (5, 1)))

    def test_a_list_changed_afterwards_changes_nothing(self):
        pair, rest = [5, 1], (8, 2)
        runs = [pair, rest]
        county = County(runs)
        pair[0] = 9
        runs.append((1, 1))
        self.same((county.runs, county.text), (((5, 1), (8, 2)), "5 8x2"))

    def test_the_list_stays_as_it_is(self):
        runs = [[8, 1], [5, 1], [8, 2]]
        County(runs)
        self.same(runs, [[8, 1], [5, 1], [8, 2]])

    def test_the_default_is_not_shared(self):
        self.same((County() + County.of("3")).text, "3")
        self.same(County().text, "-")

    def test_properties_have_no_setters(self):
        county = County.of("5 8x3")
        for name in ("runs", "text", "rows", "towns"):
            with self.subTest(name), self.assertRaises(AttributeError):
                setattr(county, name, getattr(county, name))
        self.same((county.runs, county.text, county.rows, county.towns), (((5, 1), (8, 3)), "5 8x3", 29, 4))


class Texts(Case):
    def test_texts_of_counties(self):
        for text, runs in (("-", ()), ("1", ((1, 1),)), ("5", ((5, 1),)), ("5x2", ((5, 2),)),
                           ("2 5 8x3", ((2, 1), (5, 1), (8, 3))), ("9 10 100x20", ((9, 1), (10, 1), (100, 20))),
                           ("1x10 11", ((1, 10), (11, 1))),
                           (f"{GREAT}x{GREAT}", ((GREAT, GREAT),))):
            with self.subTest(text):
                self.same(County.of(text).runs, runs)
                self.same(County(runs).text, text)

    def test_each_small_county_has_a_text_of_its_own(self):
        texts = [county.text for county in small()]
        self.assertEqual(len(set(texts)), 27)
        for county in small():
            self.assertEqual(County.of(county.text), county)

    def test_texts_that_are_none(self):
        for text in ("", " ", "5 5", "5x2 5", "5 5x2", "8 5", "5 8 7", "8x1", "8x0", "8x", "x8", "x", "8x2x2", "8xx2",
                     "0", "0x2", "05", "00", "8x02", "8x00", "08x2", "5  8", " 5", "5 ", "5 8 ", "-5", "+5", "5x+2",
                     "5x-2", "--", "- 5", "5 -", " -", "- ", "-x2", "5X2", "5 x2", "5x 2", "5,8", "5\t8", "5\n8", "5\n",
                     "\n5", "5.0", "5_0", "1e3", "a", "five", "None", "\u0665", "\u00b2", "\uff15", "5x\u0662", "5*2",
                     "5; 8", "(5)"):
            with self.subTest(text):
                self.refused(BadText, {}, County.of, text)

    def test_texts_of_very_great_numbers(self):
        # More digits than int and str take at once.
        text = "1" + "0" * 5000
        county = County.of(text)
        self.assertEqual(county.rows % 10 ** 70, 0)
        self.assertTrue(county.text == text)
        self.assertTrue((county + county).text == text + "x2")
        squared = County(((county.rows, county.rows),))
        self.assertTrue(squared.text == text + "x" + text)

    def test_digits_around_the_parts_they_are_told_in(self):
        for number in (10 ** 64 - 1, 10 ** 64, 10 ** 64 + 1, 10 ** 128 - 1, 10 ** 128, 10 ** 128 + 10 ** 64, 7 * 10 ** 99):
            self.same(County(((number, 1),)).text, str(number))
            self.same(County.of(str(number)).runs, ((number, 1),))


class Sizes(Case):
    """What is asked of sizes below, at, between and above those that a County has."""

    def setUp(self):
        self.county = County.of("2 5x2 8x3")

    def test_many_of_a_size(self):
        self.same([self.county[size] for size in (-3, 0, 1, 2, 3, 5, 6, 8, 9, GREAT)], [0, 0, 0, 1, 0, 2, 0, 3, 0, 0])

    def test_in(self):
        self.same([size in self.county for size in (-3, 0, 1, 2, 3, 5, 6, 8, 9, GREAT)],
                  [False, False, False, True, False, True, False, True, False, False])
        self.assertFalse(1 in County())
        self.assertTrue(4 not in self.county)

    def test_rows_from(self):
        self.same([self.county.rows_from(least) for least in (-1, 0, 1, 2, 3, 5, 6, 8, 9, GREAT)],
                  [36, 36, 36, 36, 34, 34, 24, 24, 0, 0])
        self.same(self.county.rows_from(least=5), 34)

    def test_towns_from(self):
        self.same([self.county.towns_from(least) for least in (-1, 0, 1, 2, 3, 5, 6, 8, 9, GREAT)],
                  [6, 6, 6, 6, 5, 5, 3, 3, 0, 0])
        self.same(self.county.towns_from(least=5), 5)

    def test_only(self):
        self.same([self.county.only(least).text for least in (-1, 0, 1, 2, 3, 5, 6, 8, 9, GREAT)],
                  ["2 5x2 8x3"] * 4 + ["5x2 8x3"] * 2 + ["8x3"] * 2 + ["-"] * 2)
        self.same(self.county.only(least=5).text, "5x2 8x3")
        self.assertIs(self.county.only(3).__class__, County)

    def test_nothing_of_this_changes_the_county(self):
        self.county.only(5), self.county.rows_from(5), self.county.towns_from(5), self.county[5], 5 in self.county
        self.same(self.county.runs, ((2, 1), (5, 2), (8, 3)))

    def test_without_towns(self):
        self.same((County()[1], County().rows_from(1), County().towns_from(1), County().only(1).text), (0, 0, 0, "-"))

    def test_against_towns_one_by_one(self):
        for county in small():
            towns = bag(county)
            self.same((county.rows, county.towns, len(county)), (sum(towns), len(towns), len(set(towns))))
            for least in range(5):
                left = [size for size in towns if size >= least]
                self.same((county.rows_from(least), county.towns_from(least), bag(county.only(least)), county[least]),
                          (sum(left), len(left), left, towns.count(least)))

    def test_no_iteration(self):
        for county in (self.county, County()):
            with self.assertRaises(TypeError):
                iter(county)
            with self.assertRaises(TypeError):
                list(county)
            with self.assertRaises(TypeError):
                for _ in county:
                    pass
            with self.assertRaises(TypeError):
                _, _, _ = county


class Pairs(Case):
    """+, within and ==, in both directions."""

    def test_against_towns_one_by_one(self):
        for a, b in itertools.product(small(), repeat=2):
            one, other = bag(a), bag(b)
            self.same(bag(a + b), sorted(one + other))
            self.same(a.within(b), all(one.count(size) <= other.count(size) for size in (1, 2, 3)))
            self.same((a == b, a != b), (one == other, one != other))

    def test_plus_leaves_both_as_they_are(self):
        a, b = County.of("2 5"), County.of("5 9")
        self.same(((a + b).text, (b + a).text, a.text, b.text), ("2 5x2 9", "2 5x2 9", "2 5", "5 9"))
        self.same(((a + County()).text, (County() + a).text, (a + a).text), ("2 5", "2 5", "2x2 5x2"))

    def test_plus_with_great_numbers(self):
        self.same((County(((7, GREAT),)) + County(((7, GREAT), (GREAT, 1)))).runs, ((7, 2 * GREAT), (GREAT, 1)))

    def test_within(self):
        a, b = County.of("5 8x2"), County.of("2 5 8x3")
        self.same((a.within(b), b.within(a), a.within(a), County().within(a), a.within(County()),
                   County().within(County())), (True, False, True, True, False, True))
        self.same((County.of("5x3").within(County.of("5x2 6x9")), County.of("4").within(County.of("5"))), (False, False))
        self.same(a.within(b=b), True)

    def test_equal(self):
        a = County(((5, 1), (8, 2)))
        self.same((a == County([[8, 1], [5, 1], [8, 1]]), a != County([[8, 2], [5, 1]]), a == a), (True, False, True))
        self.same((a == County.of("5 8x3"), County.of("5 8x3") == a, a == County.of("5 8x2 9"), a == County()),
                  (False, False, False, False))
        self.same((County() == County.of("-"), County() != County()), (True, False))

    def test_a_county_equals_nothing_else(self):
        for county in (County(), County.of("5"), County.of("5 8x2")):
            for thing in (None, True, False, 0, 1, 5, "", "-", "5", "5 8x2", (), [], ((5, 1),), [(5, 1)],
                          county.runs, list(county.runs), county.text, {}, Step("town", 5), Step("county", 5)):
                with self.subTest(county=county.text, thing=thing):
                    self.same((county == thing, thing == county, county != thing, thing != county),
                              (False, False, True, True))


class Functions(Case):
    def test_what_is_runs(self):
        for thing in ((), ((1, 1),), ((5, 3),), ((2, 1), (5, 3)), ((1, 1), (2, 1), (3, 1)), ((GREAT, GREAT),),
                      ((5, 10 ** 90), (10 ** 90, 1)), tuple([(size, 1) for size in range(1, 200)])):
            with self.subTest(thing):
                self.same(is_runs(thing), True)
                self.same(is_runs(thing=thing), True)

    def test_what_is_none(self):
        deep = 1
        for _ in range(12):
            deep = (deep,)
        for thing in (((5, 1), (2, 1)), ((2, 1), (2, 1)), ((1, 1), (3, 1), (2, 1)), ((2, 0),), ((0, 2),), ((-1, 2),),
                      ((2, -1),), ((2, 1), (5, 0)),
                      [], [(2, 1)], ([2, 1],), ((2, 1), [5, 3]), [[2, 1]],
                      ((True, 1),), ((2, True),), ((False, 1),), ((1, 1), (2, True)),
                      None, True, False, 0, 1, -1, "", "-", "5", "2 5", ("5",), ("ab",), (("2", "1"),), ((2, "1"),),
                      ((None, 1),), ((2, None),), (None,), (1,), (2, 1), (2, (5, 1)), ((),), ((2,),), ((2, 1, 1),),
                      (((2, 1),),), ((2, (1,)),), (((2,), 1),), ((2, 1), ()), ((2, 1), None), ((2, 1), True),
                      ((2, 1), 5), ((2, 1), "51"), deep, [deep]):
            with self.subTest(thing):
                self.same(is_runs(thing), False)
                self.same(is_runs(thing=thing), False)

    def test_runs_of_counties_are_runs(self):
        for county in small():
            self.same(is_runs(county.runs), True)

    def test_shown(self):
        a, b = County.of("5"), County.of("2x9")
        for table, texts in (((), ()), ((County(),), ()), ((County(), County()), ()), ((a,), ("5",)),
                             ((b, a), ("2x9", "5")), ((a, County(), b, County(), a), ("5", "2x9", "5"))):
            for given in (table, list(table)):
                found = shown(given)
                self.assertIs(found.__class__, tuple)
                self.same(tuple([own.text for own in found]), texts)
                self.assertEqual(len(given), len(table))
        self.same([own.text for own in shown(table=[County(), a])], ["5"])

    def test_a_table_changed_afterwards_changes_nothing(self):
        table = [County.of("5"), County()]
        found = shown(table)
        table[0] = County()
        table.append(County.of("6"))
        self.same([own.text for own in found], ["5"])

    def test_twice_the_same(self):
        self.assertEqual(County.of("2 5").runs, County.of("2 5").runs)
        self.assertEqual(shown((County.of("2"),)), shown([County.of("2")]))


class Interface(Case):
    def test_all_is_defined_in_the_file(self):
        for thing in (County, is_runs, shown):
            self.assertEqual(thing.__module__, "smalltowns.counties")
            self.assertIs(vars(counties)[thing.__name__], thing)

    def test_all_methods_are_in_the_class(self):
        self.assertEqual(County.__bases__, (object,))
        for name in ("of", "runs", "text", "rows", "towns", "rows_from", "towns_from", "only", "within",
                     "__len__", "__getitem__", "__contains__", "__iter__", "__add__", "__eq__"):
            self.assertIn(name, vars(County))
        self.assertIsInstance(vars(County)["of"], staticmethod)
        for name in ("runs", "text", "rows", "towns"):
            self.assertIsInstance(vars(County)[name], property)


if __name__ == "__main__":
    unittest.main()
