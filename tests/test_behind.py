"""[8], and [2] of the same."""

import functools
import itertools
import unittest

from helper import Case
from models import GREAT, bags, forms_to, grown, inside, looks, rules_of

from smalltowns import behind
from smalltowns.behind import either_order, fronts, idle_ahead, idle_behind, meeting, rests, steady
from smalltowns.counties import County
from smalltowns.forms import script_of
from smalltowns.order import above, below
from smalltowns.scripts import Script

FIRST = "county 10; town 5"
AGAIN = "county 10; town 5; county 8"

SCRIPTS = tuple([script_of(form) for form in forms_to(5)])
SOME = bags(10, 6)


@functools.lru_cache(maxsize=None)
def seen():
    """What each Script with numbers to 5 shows of small counties, by its FORM."""
    return {script.form: looks(rules_of(script), SOME) for script in SCRIPTS}


@functools.lru_cache(maxsize=None)
def seen_together():
    """What two of them show, one behind the other, by both FORMs."""
    return {(one.form, other.form): looks(rules_of(one) + rules_of(other), SOME)
            for one, other in itertools.product(SCRIPTS, repeat=2)}


@functools.lru_cache(maxsize=None)
def made():
    """Of which Scripts with numbers to 5 each two of them make a third one: by the FORMs."""
    by_look = {look: form for form, look in seen().items()}
    return {pair: by_look[look] for pair, look in seen_together().items()}


def plain_texts(found):
    """The texts of a pair of Scripts, None for None."""
    return None if found is None else tuple([own.text for own in found])


class Examples(Case):
    """What DOC.md shows in [8]."""

    def setUp(self):
        self.first, self.town, self.again = Script.of(FIRST), Script.of("town 5"), Script.of(AGAIN)

    def test_rests_and_fronts(self):
        first, town, again = self.first, self.town, self.again
        self.same((rests(town, first), [own.text for own in fronts(town, first)],
                   [own.text for own in rests(first, again)], [own.text for own in rests(first, first)]),
                  (None, ["county 10; town 5", "county 10"], ["town 5; county 8", "county 8"], ["town 5", "-"]))

    def test_more_of_them(self):
        first, town = self.first, self.town
        self.same(([own.text for own in rests(first, Script.of("county 10; town 9"))], fronts(first, town),
                   [own.text for own in fronts(Script.of("county 4"), Script.of("town 3; county 4"))],
                   fronts(Script.of("county 4"), Script.of("county 4; town 3"))),
                  (["town 9", "town 9"], None, ["town 3; county 4", "town 3"], None))

    def test_either_order_and_steady(self):
        first, town = self.first, self.town
        self.same((either_order(first, self.again), either_order(town, Script.of("county 10")), steady(first),
                   steady(town >> Script.of("county 10"))), (True, False, False, True))

    def test_idle(self):
        self.same((idle_behind(self.first, Script.of("county 5; town 3")), idle_behind(self.first, Script.of("county 6")),
                   idle_ahead(Script.of("town 5; county 10"), Script.of("county 7; town 5"))), (True, False, True))

    def test_meeting(self):
        first, town, again = self.first, self.town, self.again
        self.same((meeting(first, Script.of("county 8; town 3")).text, meeting(town, again).text,
                   meeting(first, again).text, meeting(Script(), first).text),
                  ("town 5; county 10", "town 5; county 10", "county 10; town 5; county 8", "county 10; town 5"))


class Parts(Case):
    """Whatever makes the whole stands exactly between the two that are told."""

    def check(self, found, right):
        """found is told, right are the FORMs of all with numbers to 5 that make the whole."""
        if not right:
            self.assertIsNone(found)
            return
        self.same((found.__class__, len(found)), (tuple, 2))
        narrow, wide = found
        self.same((narrow.text, wide.text), (narrow.plain.text, wide.plain.text))
        self.assertIn(narrow.form, right)
        self.assertIn(wide.form, right)
        low, high = seen()[narrow.form], seen()[wide.form]
        between = {form for form, look in seen().items() if inside(low, look) and inside(look, high)}
        self.assertEqual(between, right)

    def test_rests(self):
        for p, whole in itertools.product(SCRIPTS, repeat=2):
            right = {x.form for x in SCRIPTS if made()[p.form, x.form] == whole.form}
            self.check(rests(p, whole), right)
            self.same(plain_texts(rests(whole=whole, p=p)), plain_texts(rests(p, whole)))

    def test_fronts(self):
        for p, whole in itertools.product(SCRIPTS, repeat=2):
            right = {x.form for x in SCRIPTS if made()[x.form, p.form] == whole.form}
            self.check(fronts(p, whole), right)
            self.same(plain_texts(fronts(whole=whole, p=p)), plain_texts(fronts(p, whole)))

    def test_nothing_just_beyond_makes_the_whole(self):
        # Also beyond the numbers to 5.
        for p, whole in itertools.product(SCRIPTS, repeat=2):
            for found, together in ((rests(p, whole), lambda x: p >> x), (fronts(p, whole), lambda x: x >> p)):
                if found is not None:
                    for x in below(found[0]) + above(found[1]):
                        self.assertNotEqual(together(x), whole)

    def test_when_there_are_rests(self):
        for p, whole in itertools.product(SCRIPTS, repeat=2):
            there = whole.least >= p.least and all(
                whole.floor(size) == max(p.floor(size), whole.floor(p.least)) for size in range(1, p.least + 1))
            self.same(rests(p, whole) is not None, there)

    def test_great_numbers(self):
        for p, whole in itertools.product(SCRIPTS, repeat=2):
            for call in (rests, fronts):
                found, great = call(p, whole), call(grown(p), grown(whole))
                if found is None:
                    self.assertIsNone(great)
                else:
                    self.same(plain_texts(great), plain_texts([grown(own) for own in found]))

    def test_great_ones_make_the_whole(self):
        whole = Script.of(f"county {9 * GREAT}; town {GREAT}; county {5 * GREAT + 1}; town {3 * GREAT}")
        for many in range(len(whole) + 1):
            ahead, behind_it = Script(whole.steps[:many]), Script(whole.steps[many:])
            for x in rests(ahead, whole):
                self.assertEqual(ahead >> x, whole)
            for x in fronts(behind_it, whole):
                self.assertEqual(x >> behind_it, whole)
            narrow, wide = rests(ahead, whole)
            self.assertTrue(narrow.within(behind_it) and behind_it.within(wide))
            narrow, wide = fronts(behind_it, whole)
            self.assertTrue(narrow.within(ahead) and ahead.within(wide))

    def test_of_no_steps(self):
        for script in SCRIPTS:
            self.same(plain_texts(rests(Script(), script)), (script.text, script.text))
            self.same(plain_texts(fronts(Script(), script)), (script.text, script.text))

    def test_scripts_that_are_not_plain(self):
        one, whole = Script.of("county 3; town 2; town 1"), Script.of("county 3; county 2; town 2; county 3; county 1")
        self.same(plain_texts(rests(one, whole)), plain_texts(rests(one.plain, whole.plain)))
        self.same(plain_texts(fronts(one, whole)), plain_texts(fronts(one.plain, whole.plain)))
        self.same((one.text, whole.text), ("county 3; town 2; town 1", "county 3; county 2; town 2; county 3; county 1"))


class Pairs(Case):
    def test_either_order(self):
        for p, other in itertools.product(SCRIPTS, repeat=2):
            wanted = made()[p.form, other.form] == made()[other.form, p.form]
            self.same((either_order(p, other), either_order(other=other, p=p)), (wanted, wanted))
            self.same(either_order(grown(p), grown(other)), wanted)

    def test_steady(self):
        for p in SCRIPTS:
            wanted = made()[p.form, p.form] == p.form
            self.same((steady(p), steady(p=p), steady(grown(p))), (wanted, wanted, wanted))
            self.same(len(p.form) == 1, wanted)

    def test_idle_behind(self):
        for p, other in itertools.product(SCRIPTS, repeat=2):
            wanted = made()[p.form, other.form] == p.form
            self.same((idle_behind(p, other), idle_behind(other=other, p=p)), (wanted, wanted))
            self.same(idle_behind(grown(p), grown(other)), wanted)

    def test_idle_ahead(self):
        for p, other in itertools.product(SCRIPTS, repeat=2):
            wanted = made()[other.form, p.form] == p.form
            self.same((idle_ahead(p, other), idle_ahead(other=other, p=p)), (wanted, wanted))
            self.same(idle_ahead(grown(p), grown(other)), wanted)

    def test_scripts_that_are_alike_are_the_same(self):
        p, same = Script.of("county 4; town 3; county 2"), Script.of("county 4; town 3")
        for other in SCRIPTS:
            self.same((either_order(p, other), idle_behind(p, other), idle_ahead(p, other), steady(p)),
                      (either_order(same, other), idle_behind(same, other), idle_ahead(same, other), steady(same)))


class Meeting(Case):
    def test_it_is_the_widest(self):
        reached = {p.form: {made()[p.form, x.form] for x in SCRIPTS} for p in SCRIPTS}
        for p, other in itertools.product(SCRIPTS, repeat=2):
            found = meeting(p, other)
            self.same(found.text, found.plain.text)
            both = reached[p.form] & reached[other.form]
            self.assertIn(found.form, both)
            for form in both:
                self.assertTrue(inside(seen()[form], seen()[found.form]))

    def test_both_have_rests(self):
        for p, other in itertools.product(SCRIPTS, repeat=2):
            found = meeting(p, other)
            self.assertIsNotNone(rests(p, found))
            self.assertIsNotNone(rests(other, found))
            for wider in above(found):
                self.assertTrue(rests(p, wider) is None or rests(other, wider) is None)

    def test_whichever_is_told_first(self):
        for p, other in itertools.product(SCRIPTS, repeat=2):
            self.same(meeting(p, other).text, meeting(other, p).text)
            self.same(meeting(other=other, p=p).text, meeting(p, other).text)

    def test_great_numbers(self):
        for p, other in itertools.product(SCRIPTS, repeat=2):
            self.same(meeting(grown(p), grown(other)).text, grown(meeting(p, other)).text)

    def test_both_stay_as_they_are(self):
        p, other = Script.of("county 9; county 1; town 2"), Script.of("town 3; town 1")
        found = meeting(p, other)
        self.same((found.text, p.text, other.text), ("town 3; county 9", "county 9; county 1; town 2", "town 3; town 1"))
        self.same(found(County.of("3x3")).text, "3x3")


class Interface(Case):
    def test_they_are_defined_in_the_file(self):
        for name in ("rests", "fronts", "either_order", "steady", "idle_behind", "idle_ahead", "meeting"):
            self.assertEqual(vars(behind)[name].__module__, "smalltowns.behind")


if __name__ == "__main__":
    unittest.main()
