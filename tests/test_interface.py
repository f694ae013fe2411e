"""[17] and [2]: each function and class is in its file, with the parameters that are shown."""

import importlib
import inspect
import unittest

from helper import Case

from smalltowns import behind, costs, desk, forms, order, plans, readers, rows, tells, texts
from smalltowns.board import Board
from smalltowns.counties import County
from smalltowns.plans import Plan
from smalltowns.scripts import Script
from smalltowns.steps import Step

# By file: each function, class or method of a class with its parameters; a default value stands behind =.
LISTED = {
    "counties": {"is_runs": "thing", "shown": "table", "County": "runs=()", "County.of": "text",
                 "County.rows_from": "self least", "County.towns_from": "self least", "County.only": "self least",
                 "County.within": "self b"},
    "steps": {"Step": "kind least", "Step.of": "text", "Step.__call__": "self county"},
    "scripts": {"Script": "steps=()", "Script.of": "text", "Script.__call__": "self county",
                "Script.table": "self table", "Script.shows": "self county size", "Script.floor": "self size",
                "Script.within": "self other"},
    "forms": {"is_form": "thing", "script_of": "form"},
    "order": {"compare": "p q", "above": "p", "below": "p", "strictness": "p", "outside_county": "p q",
              "parting_county": "p q", "strictest": "wishes", "many_with": "least most",
              "many_strict": "number most", "many_between": "p q", "nth_between": "p q number",
              "rank_between": "p q third"},
    "behind": {"rests": "p whole", "fronts": "p whole", "either_order": "p other", "steady": "p",
               "idle_behind": "p other", "idle_ahead": "p other", "meeting": "p other"},
    "readers": {"can_be_shown": "script shown", "can_hide": "script shown hidden", "bonds": "script shown",
                "least_rows": "script shown size=1", "least_towns": "script shown size=1",
                "least_hidden": "script shown", "can_total": "script shown rows", "greatest_town": "script shown rows",
                "agree": "scripts shown", "fewest_rows_for": "scripts shown", "county_for": "scripts shown"},
    "costs": {"needless": "script", "steps_needed": "script", "taken_by": "script county size",
              "new_town": "script county", "pillars": "script county", "towns_to_lose": "script county size",
              "town_to_add": "script county size"},
    "tells": {"fits": "script looks", "strictest_fit": "looks", "sure": "looks county size", "only_fit": "looks",
              "how_many_fit": "looks", "next_look": "looks", "telling_table": "most", "read_off": "most told",
              "Search": "most", "Search.tell": "self shown"},
    "plans": {"Plan": "steps=()", "Plan.of": "text", "Plan.__call__": "self country", "Plan.within": "self other",
              "unmet": "plan country", "parting_country": "plan other"},
    "rows": {"in_row": "scripts order", "shortened": "scripts order", "outcomes": "scripts", "all_alike": "scripts",
             "unlike_pair": "scripts", "most_order": "scripts", "least_order": "scripts", "always": "scripts county",
             "sometimes": "scripts county"},
    "board": {"Board": "", "Board.towns_of": "self county", "Board.sure": "self name", "Board.maybe": "self name",
              "Board.rows_of": "self name county", "Board.promise": "self name", "Board.idle": "self",
              "Board.effect": "self name script", "Board.leave": "self name", "Board.frame": "self name low high",
              "Board.lift": "self name", "Board.turn": "self script", "Board.put": "self county town low high",
              "Board.strike": "self county town", "Board.attempt": "self deeds", "Board.undo": "self",
              "Board.twin": "self"},
    "texts": {"program_of": "text", "board_text": "board", "board_in": "text"},
    "desk": {"answers": "text"},
}

# The properties and the double-underscore methods of the classes, each defined in the class itself.
OWN = {
    "counties.County": "runs text rows towns __len__ __getitem__ __contains__ __iter__ __add__ __eq__",
    "steps.Step": "kind least text __eq__",
    "scripts.Script": "steps text form least floors plain __len__ __getitem__ __iter__ __rshift__ __mul__ __and__ __or__ "
                      "__eq__",
    "tells.Search": "ask script __len__",
    "plans.Plan": "steps text script holds __len__ __getitem__ __iter__ __rshift__ __mul__ __eq__",
    "board.Board": "counties house names frames __len__ __contains__ __getitem__ __setitem__ __iadd__ __iter__ __eq__",
}


def told(thing):
    """The parameters of a function or a class, as they are listed here."""
    words = []
    for own in inspect.signature(thing).parameters.values():
        assert own.kind == own.POSITIONAL_OR_KEYWORD
        words.append(own.name if own.default is own.empty else f"{own.name}={own.default!r}")
    return " ".join(words)


class Listed(Case):
    def test_parameters(self):
        for file, names in LISTED.items():
            module = importlib.import_module(f"smalltowns.{file}")
            for name, wanted in names.items():
                with self.subTest(file=file, name=name):
                    thing = module
                    for part in name.split("."):
                        thing = vars(thing)[part] if inspect.isclass(thing) else getattr(thing, part)
                    if isinstance(thing, staticmethod):
                        thing = thing.__func__
                    self.same(told(thing), wanted)

    def test_defined_where_they_are_listed(self):
        for file, names in LISTED.items():
            module = importlib.import_module(f"smalltowns.{file}")
            for name in names:
                with self.subTest(file=file, name=name):
                    self.same(getattr(module, name.split(".")[0]).__module__, f"smalltowns.{file}")


    def test_classes_define_what_is_listed_for_them(self):
        for place, names in OWN.items():
            file, name = place.split(".")
            found = vars(importlib.import_module(f"smalltowns.{file}"))[name]
            self.assertEqual(found.__bases__, (object,))
            for own in names.split():
                with self.subTest(place=place, name=own):
                    thing = vars(found)[own]
                    self.assertEqual(isinstance(thing, property), not own.startswith("__"))
                    if isinstance(thing, property):
                        self.assertIsNone(thing.fset)

    def test_all_files_are_there(self):
        for file in ("errors", *LISTED):
            self.assertEqual(importlib.import_module(f"smalltowns.{file}").__name__, f"smalltowns.{file}")


def told_of(value):
    """What is told of a value, at any depth, in strings, numbers, lists and tuples alone."""
    if isinstance(value, (list, tuple)):
        return value.__class__([told_of(part) for part in value])
    if isinstance(value, Board):
        return texts.board_text(value)
    return value.text if isinstance(value, (County, Plan, Script, Step)) else value


class Again(Case):
    """By position, by the names and again there comes the same, and nothing that is handed in changes."""

    def check(self, call, **named):
        before = told_of(list(named.values()))
        found = told_of(call(*named.values()))
        turned = {name: named[name] for name in sorted(named, reverse=True)}
        self.same(told_of(call(**turned)), found)
        self.same(told_of(call(*named.values())), found)
        self.same(told_of(list(named.values())), before)

    def test_of_a_script(self):
        script, county = Script.of("county 10; county 2; town 5"), County.of("1 4 5")
        self.check(Script, steps=[Step("town", 5), Step("county", 10)])
        self.check(Script.of, text="county 10; town 5")
        self.check(script, county=county)
        self.check(script.table, table=[county, County(), county])
        self.check(script.shows, county=county, size=5)
        self.check(script.floor, size=3)
        self.check(script.within, other=Script.of("town 2; town 1"))
        for name in ("steps", "text", "form", "least", "floors", "plain"):
            self.same(told_of(getattr(script, name)), told_of(getattr(script, name)))

    def test_forms(self):
        self.check(forms.is_form, thing=((1, 4), (10, 10)))
        self.check(forms.script_of, form=[[1, 4], (10, 10)])

    def test_order(self):
        p, q = Script.of("town 5; county 10; town 2"), Script.of("county 10; town 5; county 3")
        for call in (order.compare, order.outside_county, order.parting_county, order.many_between):
            self.check(call, p=p, q=q)
            self.check(call, p=q, q=p)
        for call in (order.above, order.below, order.strictness):
            self.check(call, p=p)
        self.check(order.strictest, wishes=[[County.of("1 4 5"), 5], (County.of("3 7"), 7)])
        self.check(order.many_with, least=5, most=10)
        self.check(order.many_strict, number=5, most=10)
        self.check(order.nth_between, p=p, q=q, number=77)
        self.check(order.rank_between, p=p, q=q, third=Script.of("county 10; town 5; county 8"))

    def test_behind(self):
        p, other = Script.of("county 10; county 2; town 5"), Script.of("county 10; town 5; county 8; county 8")
        for call in (behind.rests, behind.fronts):
            self.check(call, p=p, whole=other)
        for call in (behind.either_order, behind.idle_behind, behind.idle_ahead, behind.meeting):
            self.check(call, p=p, other=other)
        self.check(behind.steady, p=p)

    def test_readers(self):
        script, shown = Script.of("county 20; town 4; county 12; county 2; town 6"), County.of("6")
        self.check(readers.can_hide, script=script, shown=shown, hidden=County.of("5x3"))
        for call in (readers.can_be_shown, readers.bonds, readers.least_hidden, readers.least_rows, readers.least_towns):
            self.check(call, script=script, shown=shown)
        for call in (readers.least_rows, readers.least_towns):
            self.check(call, script=script, shown=shown, size=4)
        for call in (readers.can_total, readers.greatest_town):
            self.check(call, script=script, shown=shown, rows=21)
        scripts = [Script.of("town 4; county 8; county 2; town 6"), Script.of("town 2; county 12")]
        for call in (readers.agree, readers.fewest_rows_for, readers.county_for):
            self.check(call, scripts=scripts, shown=[shown, County()])
            self.check(call, scripts=tuple(scripts), shown=(shown, County()))

    def test_costs(self):
        script, county = Script.of("county 10; county 2; town 5"), County.of("1 4 5")
        for call in (costs.needless, costs.steps_needed):
            self.check(call, script=script)
        for call in (costs.new_town, costs.pillars):
            self.check(call, script=script, county=county)
        for call in (costs.taken_by, costs.towns_to_lose, costs.town_to_add):
            for size in (1, 4, 5):
                self.check(call, script=script, county=county, size=size)

    def test_tells(self):
        looks = [[County.of("1 4 5"), 5, True], (County.of("1 4 5"), 4, False)]
        self.check(tells.fits, script=Script.of("county 10; town 5; town 2"), looks=looks)
        for call in (tells.strictest_fit, tells.only_fit, tells.how_many_fit, tells.next_look):
            self.check(call, looks=looks)
            self.check(call, looks=looks[1:])
            self.check(call, looks=())
        self.check(tells.sure, looks=looks, county=County.of("1 4 6"), size=6)
        self.check(tells.telling_table, most=6)
        shown = [Script.of("county 5; town 3")(county) for county in tells.telling_table(6)]
        self.check(tells.read_off, most=6, told=shown)
        search, other = tells.Search(100), tells.Search(most=100)
        for shown in (True, False, False, True):
            self.same(told_of(search.ask), told_of(other.ask))
            self.same((search.tell(shown), other.tell(shown=shown)), (None, None))

    def test_plans(self):
        plan, other = Plan.of("county 9; country 20; town 3; town 1"), Plan.of("country 7; county 9")
        country = [County.of("9"), County(), County.of("2 8"), County.of("5")]
        self.check(Plan, steps=[["county", 9], ("country", 20)])
        self.check(Plan.of, text="county 9; country 20")
        self.check(plan, country=country)
        self.check(plan.within, other=other)
        self.check(plans.unmet, plan=plan, country=country)
        self.check(plans.parting_country, plan=plan, other=other)
        self.check(plans.parting_country, plan=plan, other=Plan.of("county 9; town 3"))
        for name in ("steps", "text", "script", "holds"):
            self.same(told_of(getattr(plan, name)), told_of(getattr(plan, name)))

    def test_rows(self):
        scripts, county = [Script.of("county 10; town 5; town 5"), Script.of("town 2; county 9")], County.of("1 4 5")
        for call in (rows.in_row, rows.shortened):
            self.check(call, scripts=scripts, order=[1, 0, 1, 0])
            self.check(call, scripts=tuple(scripts), order=())
        for call in (rows.outcomes, rows.all_alike, rows.unlike_pair, rows.most_order, rows.least_order):
            self.check(call, scripts=scripts)
        for call in (rows.always, rows.sometimes):
            self.check(call, scripts=scripts, county=county)

    def test_boards(self):
        board = Board()
        deeds = [["put", "north", "a", 4, 4], ("put", "north", "b", 5, 7), ["set", "web", Script.of("county 9; town 5")],
                 ["step", "web", Step.of("town 3")], ["frame", "web", None, Script()], ["turn", Script.of("town 2")]]
        before = [list(deed) for deed in deeds]
        board.attempt(deeds)
        self.same(told_of(deeds), told_of([before[0], tuple(before[1]), *before[2:]]))
        text = texts.board_text(board)
        # What was handed in may change; the Board stays as it is.
        deeds[0][3] = 99
        deeds[2][2] = Script()
        deeds.append(("leave", "web"))
        self.same(texts.board_text(board), text)
        for call in (board.sure, board.maybe, board.promise):
            self.check(call, name="web")
        self.check(board.rows_of, name="web", county="north")
        self.check(board.towns_of, county="north")
        self.check(board.effect, name="web", script=Script.of("town 5; town 1"))
        self.check(board.idle)
        self.check(board.twin)
        for name in ("counties", "house", "names", "frames"):
            self.same(told_of(getattr(board, name)), told_of(getattr(board, name)))
        self.same(texts.board_text(board), text)

    def test_texts(self):
        self.check(texts.program_of, text="(county 10; town 5) x 2; town 1")
        text = "north has a 4 b 5..7\nweb: county 9; town 5; town 2\nweb from * .. town 4\nhouse town 2"
        self.check(texts.board_in, text=text)
        self.check(texts.board_text, board=texts.board_in(text))
        self.check(desk.answers, text="put north a 4\nreport web town 3\nsure web\nundo\nundo\nundo\nidle")


if __name__ == "__main__":
    unittest.main()
