"""[1]: the main guarantees, with drawn Scripts of small and of great numbers, over the whole program."""

import random
import unittest

from helper import Case
from models import GREAT, bags, county_of, form_of_set, left_by, rules_of, script_by, set_of, set_within

from smalltowns.behind import fronts, rests
from smalltowns.board import Board
from smalltowns.costs import steps_needed
from smalltowns.counties import County
from smalltowns.errors import BadSize, NoFrame, NoName, NoReport, Outside, Stopped
from smalltowns.forms import script_of
from smalltowns.order import many_between, nth_between, outside_county, parting_county, rank_between, strictness
from smalltowns.plans import Plan
from smalltowns.readers import can_be_shown, county_for, least_hidden, least_rows
from smalltowns.rows import all_alike, outcomes, shortened
from smalltowns.scripts import Script
from smalltowns.steps import Step
from smalltowns.tells import Search, fits, strictest_fit


def drawn_script(rng, most, many=6):
    """A drawn Script of at most so many steps with numbers to most."""
    return script_by([(rng.choice(("town", "county")), rng.randint(1, most)) for _ in range(rng.randint(0, many))])


def drawn_scripts(seed, count):
    """Pairs of drawn Scripts, of small and of great numbers."""
    rng = random.Random(seed)
    for _ in range(count):
        most = rng.choice((4, 9, 30, 10 ** 40))
        yield rng, most, drawn_script(rng, most), drawn_script(rng, most)


def shown_by_stair(script, county):
    """What is shown of a County by the least size and the stair."""
    if all(county.rows_from(size) >= rows for size, rows in script.floors):
        return county.only(script.least)
    return County()


class Guarantees(Case):
    def test_a_least_size_and_a_stair(self):
        for rng, most, p, q in drawn_scripts(1, 400):
            county = County([(rng.randint(1, most + 2), rng.randint(1, 3)) for _ in range(rng.randint(0, 9))])
            self.assertEqual(shown_by_stair(p, county), p(county))
            rows = [rows for _, rows in p.floors]
            self.same(rows, sorted(rows, reverse=True))
            self.assertEqual(script_of(p.form), p)
            self.same(p == q, p.form == q.form)
            parted = parting_county(p, q)
            self.same(parted is None, p == q)
            if parted is not None:
                self.assertLessEqual(len(parted), 2)
                self.assertNotEqual(p(parted), q(parted))

    def test_each_set_is_one_script(self):
        rng = random.Random(2)
        for _ in range(300):
            numbers = {rng.randint(1, 30) for _ in range(rng.randint(1, 12))}
            script = script_of(form_of_set(numbers))
            self.same(sorted(set_of(script.form)), sorted(numbers))
            self.same((len(numbers), max(numbers), sum(numbers) - 1),
                      (script.least, script.floor(1), strictness(script)))

    def test_b_within_by_the_sets(self):
        for rng, most, p, q in drawn_scripts(3, 400):
            within = p.within(q)
            if most < 31:
                self.same(within, set_within(set_of(p.form), set_of(q.form)))
            far = outside_county(p, q)
            self.same(far is None, within)
            if far is not None:
                self.assertLessEqual(len(far), 2)
                self.assertGreater(p(far).rows, q(far).rows)
            both, either = p & q, p | q
            self.assertTrue(both.within(p) and both.within(q) and p.within(either) and q.within(either))
            county = County([(rng.randint(1, most), rng.randint(1, 9)) for _ in range(5)])
            for size, _ in county.runs:
                self.same(both.shows(county, size), p.shows(county, size) and q.shows(county, size))

    def test_b_counted_and_numbered(self):
        for rng, most, p, q in drawn_scripts(4, 200):
            if most < 10:
                both = p & q
                many = many_between(both, q)
                number = rng.randrange(many)
                script = nth_between(both, q, number)
                self.assertTrue(both.within(script) and script.within(q))
                self.same(rank_between(both, q, script), number)

    def test_c_behind_and_ahead(self):
        for _, _, p, q in drawn_scripts(5, 300):
            whole = p >> q
            for behind in rests(p, whole):
                self.assertEqual(p >> behind, whole)
            for ahead in fronts(q, whole):
                self.assertEqual(ahead >> q, whole)
            self.assertEqual(p * 3, p * 2)
            self.assertEqual(p >> p >> p, p >> p)

    def test_c_twice_can_hide_more(self):
        self.assertTrue(any(p * 2 != p * 1 for _, _, p, _ in drawn_scripts(6, 50)))

    def test_d_what_a_reader_knows(self):
        for rng, most, p, q in drawn_scripts(7, 400):
            if most < 10:
                bag = rng.choice(bags(12, 9))
                county = county_of(bag)
                shown = p(county)
                if shown.towns:
                    self.assertTrue(can_be_shown(p, shown))
                    self.assertLessEqual(shown.rows + least_rows(p, shown), county.rows)
                    self.assertEqual(p(shown + least_hidden(p, shown)), shown)
                found = county_for((p, q), (shown, q(county)))
                self.assertEqual((p(found), q(found)), (shown, q(county)))
                self.assertLessEqual(found.rows, county.rows)

    def test_e_shortest_searched_and_in_any_order(self):
        for rng, most, p, q in drawn_scripts(8, 200):
            self.same(sum(steps_needed(p)), len(p.plain))
            self.assertLessEqual(len(p.plain), len(p))
            search, looks = Search(p.floor(1)), []
            while search.ask is not None:
                county, size = search.ask
                looks.append((county, size, p.shows(county, size)))
                search.tell(looks[-1][2])
            self.same(search.script.text, p.plain.text)
            self.assertTrue(fits(search.script, looks))
            if any([shown for _, _, shown in looks]):
                self.assertTrue(strictest_fit(looks).within(p))
            self.same(all_alike((p, q)), (p >> q) == (q >> p))
            self.same(len(outcomes((p, q))), 1 if all_alike((p, q)) else 2)
            self.assertLessEqual(len(shortened((p, q), (0, 1, 0, 1, 0))), 5)

    def test_e_countries(self):
        for rng, most, p, _ in drawn_scripts(9, 200):
            alone = Plan(rules_of(p))
            country = [County([(rng.randint(1, most), rng.randint(1, 3))]) for _ in range(4)]
            self.assertEqual(alone(country), p.table(country))
            self.same((alone.holds, alone.script.text), ((), p.text))
            self.assertTrue((alone >> Plan((("country", most),))).within(alone))

    def test_f_frames_hold(self):
        for seed in range(40):
            rng = random.Random(seed)
            board = Board()
            for _ in range(40):
                name, script = rng.choice("abc"), drawn_script(rng, rng.choice((4, GREAT)), 3)
                deeds = [("set", name, script), ("step", name, Step("county", rng.randint(1, 9))), ("leave", name),
                         ("frame", name, rng.choice((None, script)), rng.choice((None, Script(), script))),
                         ("lift", name), ("turn", script), ("put", "north", name, 3, rng.randint(2, 9)),
                         ("strike", "north", name)]
                try:
                    if rng.random() < 0.2:
                        board.undo()
                    else:
                        board.attempt(rng.sample(deeds, rng.randint(1, 3)))
                except Stopped as stopped:
                    self.assertIn(stopped.raised, [error.__name__ for error in
                                                   (BadSize, NoFrame, NoName, NoReport, Outside)])
                for name, low, high in board.frames:
                    self.assertTrue(low is None or Script.of(low).within(board[name]))
                    self.assertTrue(high is None or board[name].within(Script.of(high)))

    def test_steps_alone_say_the_same(self):
        for rng, _, p, q in drawn_scripts(10, 200):
            bag = rng.choice(bags(9, 6))
            self.same((p >> q)(county_of(bag)).runs, county_of(left_by(rules_of(p) + rules_of(q), bag)).runs)


if __name__ == "__main__":
    unittest.main()
