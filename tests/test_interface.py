"""[17] and [2]: each function and class is in its file, with the parameters that are shown."""

import importlib
import inspect
import unittest

from helper import Case

from smalltowns import behind, forms, order
from smalltowns.counties import County
from smalltowns.scripts import Script
from smalltowns.steps import Step

# By file: each function, class or method of a class with its parameters; a default value stands behind =.
LISTED = {
    "counties": {"is_runs": "thing", "shown": "table", "County": "runs=()", "County.of": "text",
                 "County.rows_from": "self least", "County.towns_from": "self least", "County.only": "self least",
                 "County.within": "self b"},
    "steps": {"Step": "kind least", "Step.of": "text", "Step.__call__": "self county"},
    "scripts": {"Script": "steps=()", "Script.of": "text", "Script.__call__": "self county",
                "Script.table": "self table", "Script.shows": "self county size", "Script.floor": "self size",
                "Script.within": "self other"},
    "forms": {"is_form": "thing", "script_of": "form"},
    "order": {"compare": "p q", "above": "p", "below": "p", "strictness": "p", "outside_county": "p q",
              "parting_county": "p q", "strictest": "wishes", "many_with": "least most",
              "many_strict": "number most", "many_between": "p q", "nth_between": "p q number",
              "rank_between": "p q third"},
    "behind": {"rests": "p whole", "fronts": "p whole", "either_order": "p other", "steady": "p",
               "idle_behind": "p other", "idle_ahead": "p other", "meeting": "p other"},
}


def told(thing):
    """The parameters of a function or a class, as they are listed here."""
    words = []
    for own in inspect.signature(thing).parameters.values():
        assert own.kind == own.POSITIONAL_OR_KEYWORD
        words.append(own.name if own.default is own.empty else f"{own.name}={own.default!r}")
    return " ".join(words)


class Listed(Case):
    def test_parameters(self):
        for file, names in LISTED.items():
            module = importlib.import_module(f"smalltowns.{file}")
            for name, wanted in names.items():
                with self.subTest(file=file, name=name):
                    thing = module
                    for part in name.split("."):
                        thing = vars(thing)[part] if inspect.isclass(thing) else getattr(thing, part)
                    if isinstance(thing, staticmethod):
                        thing = thing.__func__
                    self.same(told(thing), wanted)

    def test_defined_where_they_are_listed(self):
        for file, names in LISTED.items():
            module = importlib.import_module(f"smalltowns.{file}")
            for name in names:
                with self.subTest(file=file, name=name):
                    self.same(getattr(module, name.split(".")[0]).__module__, f"smalltowns.{file}")


def told_of(value):
    """What is told of a value, at any depth, in strings, numbers, lists and tuples alone."""
    if isinstance(value, (list, tuple)):
        return value.__class__([told_of(part) for part in value])
    return value.text if isinstance(value, (County, Script, Step)) else value


class Again(Case):
    """By position, by the names and again there comes the same, and nothing that is handed in changes."""

    def check(self, call, **named):
        before = told_of(list(named.values()))
        found = told_of(call(*named.values()))
        turned = {name: named[name] for name in sorted(named, reverse=True)}
        self.same(told_of(call(**turned)), found)
        self.same(told_of(call(*named.values())), found)
        self.same(told_of(list(named.values())), before)

    def test_of_a_script(self):
        script, county = Script.of("county 10; county 2; town 5"), County.of("1 4 5")
        self.check(Script, steps=[Step("town", 5), Step("county", 10)])
        self.check(Script.of, text="county 10; town 5")
        self.check(script, county=county)
        self.check(script.table, table=[county, County(), county])
        self.check(script.shows, county=county, size=5)
        self.check(script.floor, size=3)
        self.check(script.within, other=Script.of("town 2; town 1"))
        for name in ("steps", "text", "form", "least", "floors", "plain"):
            self.same(told_of(getattr(script, name)), told_of(getattr(script, name)))

    def test_forms(self):
        self.check(forms.is_form, thing=((1, 4), (10, 10)))
        self.check(forms.script_of, form=[[1, 4], (10, 10)])

    def test_order(self):
        p, q = Script.of("town 5; county 10; town 2"), Script.of("county 10; town 5; county 3")
        for call in (order.compare, order.outside_county, order.parting_county, order.many_between):
            self.check(call, p=p, q=q)
            self.check(call, p=q, q=p)
        for call in (order.above, order.below, order.strictness):
            self.check(call, p=p)
        self.check(order.strictest, wishes=[[County.of("1 4 5"), 5], (County.of("3 7"), 7)])
        self.check(order.many_with, least=5, most=10)
        self.check(order.many_strict, number=5, most=10)
        self.check(order.nth_between, p=p, q=q, number=77)
        self.check(order.rank_between, p=p, q=q, third=Script.of("county 10; town 5; county 8"))

    def test_behind(self):
        p, other = Script.of("county 10; county 2; town 5"), Script.of("county 10; town 5; county 8; county 8")
        for call in (behind.rests, behind.fronts):
            self.check(call, p=p, whole=other)
        for call in (behind.either_order, behind.idle_behind, behind.idle_ahead, behind.meeting):
            self.check(call, p=p, other=other)
        self.check(behind.steady, p=p)


if __name__ == "__main__":
    unittest.main()
