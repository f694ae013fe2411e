"""[2], [17]: the errors, their base classes and what they keep."""

import inspect
import unittest

from helper import Case

from smalltowns import errors

# Each class with its direct base and the names of what it keeps.
LISTED = {
    "NoPlace": (LookupError, ("place",)),
    "NoTown": (LookupError, ("size",)),
    "NoReport": (LookupError, ("name",)),
    "NoFrame": (LookupError, ("name",)),
    "NoName": (LookupError, ("name",)),
    "NoNumber": (LookupError, ("number",)),
    "NotBetween": (LookupError, ("strange",)),
    "BadText": (ValueError, ()),
    "BadRun": (ValueError, ("run",)),
    "BadStep": (ValueError, ("given",)),
    "BadSize": (ValueError, ("pair",)),
    "Outside": (ValueError, ("name",)),
    "BadLine": (ValueError, ("number",)),
    "Stopped": (ValueError, ("number", "raised", "value")),
    "Unfit": (ValueError, ()),
    "Known": (ValueError, ()),
    "NeverShown": (ValueError, ()),
    "Unlike": (ValueError, ()),
}

# One value that stands for each name.
KEPT = {
    "place": 7,
    "size": 10 ** 40,
    "name": "web",
    "number": 3,
    "strange": ((1, 4), (10, 10)),
    "run": (4, 0),
    "given": ("village", 5),
    "pair": (3, 2),
    "raised": "BadSize",
    "value": (3, 2),
}


class Errors(Case):
    def test_all_are_there_and_no_others(self):
        own = [name for name, thing in vars(errors).items()
               if inspect.isclass(thing) and issubclass(thing, Exception)]
        self.assertEqual(sorted(own), sorted(LISTED))

    def test_each_is_defined_in_this_file(self):
        for name in LISTED:
            with self.subTest(name):
                self.assertEqual(getattr(errors, name).__module__, "smalltowns.errors")
                self.assertEqual(getattr(errors, name).__name__, name)

    def test_each_has_its_one_base(self):
        for name, (base, _) in LISTED.items():
            with self.subTest(name):
                self.assertEqual(getattr(errors, name).__bases__, (base,))

    def test_each_keeps_its_values_by_position(self):
        for name, (_, kept) in LISTED.items():
            with self.subTest(name):
                error = getattr(errors, name)(*[KEPT[word] for word in kept])
                self.same(vars(error), {word: KEPT[word] for word in kept})

    def test_each_keeps_its_values_by_name(self):
        for name, (_, kept) in LISTED.items():
            with self.subTest(name):
                error = getattr(errors, name)(**{word: KEPT[word] for word in reversed(kept)})
                self.same(vars(error), {word: KEPT[word] for word in kept})

    def test_what_they_keep_has_tuples_for_lists(self):
        self.same(errors.BadRun([4, 0]).run, (4, 0))
        self.same(errors.BadStep(["village", 5]).given, ("village", 5))
        self.same(errors.BadSize([3, 2]).pair, (3, 2))
        self.same(errors.NotBetween([[1, 4], (10, 10)]).strange, ((1, 4), (10, 10)))
        self.same(errors.Stopped(1, "BadSize", [3, 2]).value, (3, 2))

    def test_they_are_caught_by_their_own_names_only(self):
        with self.assertRaises(errors.BadText):
            try:
                raise errors.BadText()
            except (errors.BadRun, errors.BadStep, errors.BadLine):
                self.fail("caught by the name of another one")


if __name__ == "__main__":
    unittest.main()
