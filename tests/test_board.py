"""[14], [1] (f), and [2] and [3] of the same."""

import copy
import functools
import itertools
import random
import unittest

from helper import Case
from models import GREAT, bags, forms_to, inside, left_by, looks, rules_of, script_by

from smalltowns import board as board_file
from smalltowns.board import Board
from smalltowns.errors import BadSize, NoFrame, NoName, NoReport, Outside, Stopped
from smalltowns.forms import script_of
from smalltowns.order import compare
from smalltowns.scripts import Script
from smalltowns.steps import Step

SCRIPTS = tuple([script_of(form) for form in forms_to(4)])
SOME = bags(9, 5)
WORDS = ("web", "press", "a", "b")


def told(board):
    """All that can be seen of a Board."""
    return (board.counties, board.house.text, board.names, len(board), board.frames,
            [(name, board[name].text, board.sure(name), board.maybe(name), board.promise(name)) for name in board.names],
            [(county, board.towns_of(county)) for county in board.counties],
            [(name, county, board.rows_of(name, county)) for name in board.names for county in board.counties],
            board.idle())


class Plain:
    """A Board as the words of [14] tell it: dicts, and copies of them for undo."""

    def __init__(self):
        self.now = {"house": Script(), "reports": {}, "frames": {}, "book": {}}
        self.past = []

    def change(self, deed):
        """Do it on self.now; returns what refuses it: (class, kept)."""
        now, (kind, *rest) = self.now, deed
        if kind in ("leave", "step", "frame", "lift") and rest[0] not in now["reports"]:
            return NoReport, {"name": rest[0]}
        if kind in ("set", "step", "frame"):
            name = rest[0]
            if kind == "frame":
                script, (low, high) = now["reports"][name], rest[1:]
            else:
                script = rest[1] if kind == "set" else now["reports"][name] >> rest[1]
                low, high = now["frames"].get(name, (None, None))
            if low is not None and not low.within(script) or high is not None and not script.within(high):
                return Outside, {"name": name}
            if kind == "frame":
                now["frames"][name] = (low, high)
            else:
                now["reports"][name] = script
        elif kind == "leave":
            del now["reports"][rest[0]]
            now["frames"].pop(rest[0], None)
        elif kind == "lift":
            if rest[0] not in now["frames"]:
                return NoFrame, {"name": rest[0]}
            del now["frames"][rest[0]]
        elif kind == "turn":
            now["house"] = rest[0]
        elif kind == "put":
            county, town, low, high = rest
            if high < low:
                return BadSize, {"pair": (low, high)}
            now["book"].setdefault(county, {})[town] = (low, high)
        else:
            county, town = rest
            if county not in now["book"]:
                return NoName, {"name": county}
            if town not in now["book"][county]:
                return NoName, {"name": town}
            del now["book"][county][town]
            if not now["book"][county]:
                del now["book"][county]
        return None

    def copied(self):
        """All dicts anew."""
        now = self.now
        return {"house": now["house"], "reports": dict(now["reports"]), "frames": dict(now["frames"]),
                "book": {county: dict(towns) for county, towns in now["book"].items()}}

    def do(self, deeds):
        """All or none: returns (number, what refuses it), or None."""
        before = self.copied()
        for number, deed in enumerate(deeds):
            refused = self.change(deed)
            if refused is not None:
                self.now = before
                return number, refused
        self.past.append(before)
        return None

    def undo(self):
        """Take back the last one."""
        if self.past:
            self.now = self.past.pop()
            return True
        return False

    def check(self, case, board):
        """The Board stands as this one."""
        now = self.now
        case.same(board.counties, tuple(sorted(now["book"])))
        for county, towns in now["book"].items():
            case.same(board.towns_of(county), tuple(sorted([(town, *towns[town]) for town in towns])))
        case.same((board.house.text, board.names, len(board)),
                  (now["house"].text, tuple(sorted(now["reports"])), len(now["reports"])))
        for name, script in now["reports"].items():
            case.same((board[name].text, name in board), (script.text, True))
        # A Script without steps is as good as False, so None is asked for.
        frames = {name: [None if own is None else own.plain.text for own in frame] for name, frame in now["frames"].items()}
        case.same(board.frames, tuple([(name, *frames[name]) for name in sorted(frames)]))


def drawn_deed(rng):
    """A drawn deed, now and then one that is refused."""
    name, county, town = rng.choice(WORDS), rng.choice(WORDS), rng.choice(WORDS)
    script = rng.choice(SCRIPTS)
    kind = rng.choice(("set", "set", "leave", "step", "frame", "frame", "lift", "turn", "put", "put", "strike"))
    if kind == "set":
        return kind, name, script
    if kind in ("leave", "lift"):
        return kind, name
    if kind == "step":
        return kind, name, Step(rng.choice(("town", "county")), rng.randint(1, 4))
    if kind == "frame":
        return kind, name, rng.choice((None, script & rng.choice(SCRIPTS))), rng.choice((None, script | rng.choice(SCRIPTS)))
    if kind == "turn":
        return kind, script
    if kind == "put":
        low = rng.randint(1, 6)
        return kind, county, town, low, low + rng.randint(-1, 4)
    return kind, county, town


def done(board, deed):
    """The deed by its own method or sign."""
    kind, *rest = deed
    if kind == "set":
        board[rest[0]] = rest[1]
        return None
    if kind == "step":
        board += (rest[0], rest[1])
        return None
    return getattr(board, kind)(*rest)


class Examples(Case):
    """What DOC.md shows in [14]."""

    def test_all(self):
        board = Board()
        board.attempt((("put", "north", "a", 4, 4), ("put", "north", "b", 5, 7), ("put", "south", "a", 9, 9)))
        board["web"], board["press"] = Script.of("county 9; town 5"), Script.of("town 5; county 9")
        self.same((board.counties, board.towns_of("north"), board.sure("web"), board.maybe("web"),
                   board.rows_of("web", "north")),
                  (("north", "south"), (("a", 4, 4), ("b", 5, 7)), (("north", "b"), ("south", "a")),
                   (("north", "b"), ("south", "a")), (5, 7)))
        self.same((board.sure("press"), board.maybe("press"), board.promise("web"), board.promise("press"), board.idle()),
                  ((("south", "a"),), (("south", "a"),), (5, 5), (5, 9), ("press",)))
        board.turn(Script.of("county 12"))
        self.same((board.sure("web"), board.rows_of("web", "north"), board.promise("web"),
                   board.effect("web", Script.of("town 5"))), ((), (0, 0), (5, 5), "within"))
        board.frame("web", None, Script.of("town 4"))
        self.refused(Outside, {"name": "web"}, board.__setitem__, "web", Script.of("county 20"))
        board += ("web", Step.of("county 6"))
        self.same((board["web"].text, board.frames, board.undo(), board["web"].text),
                  ("county 9; town 5; county 6", (("web", None, "town 4"),), True, "county 9; town 5"))
        self.refused(Stopped, {"number": 1, "raised": "BadSize", "value": (3, 2)}, board.attempt,
                     (("strike", "south", "a"), ("put", "east", "c", 3, 2)))
        self.same((board.counties, board.strike("south", "a"), board.counties), (("north", "south"), None, ("north",)))


class First(Case):
    def test_an_empty_board(self):
        board = Board()
        self.same((board.counties, board.house.text, board.names, len(board), board.frames, board.idle(), board.undo()),
                  ((), "-", (), 0, (), (), False))
        self.same(("web" in board, board == Board()), (False, True))

    def test_what_is_not_there(self):
        board = Board()
        board["web"] = Script()
        board.put("north", "a", 1, 2)
        for call in (board.sure, board.maybe, board.promise, lambda name: board[name]):
            self.refused(NoReport, {"name": "press"}, call, "press")
        for call in (board.sure, board.maybe, board.promise):
            self.refused(NoReport, {"name": "press"}, call, name="press")
        self.refused(NoReport, {"name": "press"}, board.effect, "press", Script())
        self.refused(NoReport, {"name": "press"}, board.rows_of, "press", "north")
        # The report ahead of the county.
        self.refused(NoReport, {"name": "press"}, board.rows_of, "press", "south")
        self.refused(NoName, {"name": "south"}, board.rows_of, "web", "south")
        self.refused(NoName, {"name": "south"}, board.rows_of, county="south", name="web")
        self.refused(NoName, {"name": "south"}, board.towns_of, "south")
        self.refused(NoName, {"name": "a"}, board.towns_of, county="a")

    def test_no_iteration(self):
        board = Board()
        for _ in range(2):
            for go in (iter, list, tuple, sorted, set, enumerate):
                with self.assertRaises(TypeError):
                    go(board)
            with self.assertRaises(TypeError):
                for _ in board:
                    pass
            board["web"] = Script()

    def test_properties_have_no_setters(self):
        board = Board()
        for name in ("counties", "house", "names", "frames"):
            with self.assertRaises(AttributeError):
                setattr(board, name, ())


class Refused(Case):
    """Each deed that is refused keeps what it must, changes nothing, and is nothing to take back."""

    def setUp(self):
        self.board = Board()
        self.board["web"] = Script.of("town 3; county 5")
        self.board["free"] = Script.of("county 4")
        self.board.put("north", "a", 2, 4)
        self.board.frame("web", Script.of("town 4; county 9"), Script.of("county 5; town 2"))
        self.board.put("north", "b", 5, 5)

    def stays(self, error, kept, *deed):
        """The deed is refused, by its own method and in an attempt."""
        before = told(self.board)
        self.refused(error, kept, done, self.board, deed)
        self.assertEqual(told(self.board), before)
        value = list(kept.values())[0]
        for ahead in ((), (("turn", Script.of("town 2")),), (("put", "east", "x", 1, 1), ("set", "more", Script()))):
            self.refused(Stopped, {"number": len(ahead), "raised": error.__name__, "value": value},
                         self.board.attempt, ahead + (deed, ("nothing", "of", "this", "kind")))
            self.assertEqual(told(self.board), before)
        # Still the last deed is the put.
        self.same((self.board.undo(), self.board.towns_of("north")), (True, (("a", 2, 4),)))
        self.board.put("north", "b", 5, 5)
        self.assertEqual(told(self.board), before)

    def test_a_report_outside_its_frame(self):
        self.stays(Outside, {"name": "web"}, "set", "web", Script.of("county 4"))
        self.stays(Outside, {"name": "web"}, "set", "web", Script.of("town 5; county 9"))
        self.stays(Outside, {"name": "web"}, "set", "web", Script())

    def test_a_step(self):
        self.stays(Outside, {"name": "web"}, "step", "web", Step.of("town 5"))
        self.stays(Outside, {"name": "web"}, "step", "web", Step.of("county 10"))
        self.stays(NoReport, {"name": "press"}, "step", "press", Step.of("town 5"))

    def test_leaving(self):
        self.stays(NoReport, {"name": "press"}, "leave", "press")

    def test_a_frame(self):
        self.stays(NoReport, {"name": "press"}, "frame", "press", None, None)
        self.stays(NoReport, {"name": "press"}, "frame", "press", Script.of("town 2"), Script.of("town 9"))
        self.stays(Outside, {"name": "web"}, "frame", "web", Script.of("town 2"), None)
        self.stays(Outside, {"name": "web"}, "frame", "web", None, Script.of("town 4"))
        self.stays(Outside, {"name": "free"}, "frame", "free", Script.of("county 3"), Script())
        self.stays(Outside, {"name": "free"}, "frame", "free", Script.of("county 5"), Script.of("county 5"))

    def test_lifting(self):
        self.stays(NoReport, {"name": "press"}, "lift", "press")
        self.stays(NoFrame, {"name": "free"}, "lift", "free")

    def test_sizes(self):
        self.stays(BadSize, {"pair": (3, 2)}, "put", "north", "a", 3, 2)
        self.stays(BadSize, {"pair": (10 ** 40, 1)}, "put", "south", "a", 10 ** 40, 1)

    def test_striking(self):
        self.stays(NoName, {"name": "south"}, "strike", "south", "a")
        # The county ahead of the town.
        self.stays(NoName, {"name": "south"}, "strike", "south", "nowhere")
        self.stays(NoName, {"name": "nowhere"}, "strike", "north", "nowhere")


class Frames(Case):
    def test_what_asks_for_nothing(self):
        board = Board()
        board["web"] = Script.of("town 3")
        board.frame("web", None, None)
        self.same(board.frames, (("web", None, None),))
        for script in SCRIPTS:
            board["web"] = script
        board.frame("web", None, Script.of("county 2"))
        board["web"] = Script.of("county 9; town 9")
        self.refused(Outside, {"name": "web"}, done, board, ("set", "web", Script()))
        board.frame("web", Script.of("county 10; town 9"), None)
        board["web"] = Script()
        self.refused(Outside, {"name": "web"}, done, board, ("set", "web", Script.of("town 10")))

    def test_each_low_and_high(self):
        for low, high, script in itertools.product((None, *SCRIPTS[::2]), (None, *SCRIPTS[1::2]), SCRIPTS[::3]):
            board = Board()
            board["web"] = script
            fine = (low is None or low.within(script)) and (high is None or script.within(high))
            if fine:
                self.assertIsNone(board.frame("web", low, high))
                for other in SCRIPTS[::4]:
                    stays = (low is None or low.within(other)) and (high is None or other.within(high))
                    if stays:
                        board["web"] = other
                        self.same(board["web"].text, other.text)
                    else:
                        self.refused(Outside, {"name": "web"}, done, board, ("set", "web", other))
            else:
                self.refused(Outside, {"name": "web"}, board.frame, "web", low, high)
                self.same(board.frames, ())

    def test_replaced_lifted_and_gone(self):
        board = Board()
        board["web"], board["press"] = Script.of("town 3"), Script.of("county 3; county 3; town 1")
        board.frame(name="press", low=None, high=Script.of("county 2; county 2"))
        board.frame("web", Script.of("town 4; town 2"), None)
        self.same(board.frames, (("press", None, "county 2"), ("web", "town 4", None)))
        board.frame("web", None, Script())
        self.same(board.frames, (("press", None, "county 2"), ("web", None, "-")))
        board.lift("press")
        self.same(board.frames, (("web", None, "-"),))
        board.leave("web")
        self.same((board.frames, board.names), ((), ("press",)))
        # A new one of the same NAME has none.
        board["web"] = Script.of("county 99")
        self.same(board.frames, ())
        for frames in ((), (("web", None, "-"),), (("press", None, "county 2"), ("web", None, "-")),
                       (("press", None, "county 2"), ("web", "town 4", None)), (("press", None, "county 2"),), ()):
            self.same((board.undo(), board.frames), (True, frames))

    def test_frames_hold_after_any_deeds(self):
        for seed in range(60):
            rng = random.Random(seed)
            board, frames = Board(), {}
            for _ in range(60):
                deed = drawn_deed(rng)
                try:
                    rng.choice((lambda: done(board, deed), lambda: board.attempt((deed, drawn_deed(rng))), board.undo))()
                except (BadSize, NoFrame, NoName, NoReport, Outside, Stopped):
                    pass
                for name, low, high in board.frames:
                    self.assertTrue(low is None or Script.of(low).within(board[name]))
                    self.assertTrue(high is None or board[name].within(Script.of(high)))


class Deeds(Case):
    """Against the plain one, deed by deed."""

    def test_by_their_methods(self):
        for seed in range(80):
            rng = random.Random(seed)
            board, plain = Board(), Plain()
            for _ in range(50):
                deed = drawn_deed(rng)
                if rng.random() < 0.2:
                    self.same(board.undo(), plain.undo())
                else:
                    refused = plain.do((deed,))
                    if refused is None:
                        self.assertIsNone(done(board, deed))
                    else:
                        self.refused(*refused[1], done, board, deed)
                plain.check(self, board)
            while plain.past:
                self.same(board.undo(), plain.undo())
                plain.check(self, board)
            self.same((board.undo(), board.undo(), told(board)), (False, False, told(Board())))

    def test_attempts(self):
        for seed in range(80):
            rng = random.Random(seed)
            board, plain = Board(), Plain()
            for _ in range(40):
                deeds = [drawn_deed(rng) for _ in range(rng.randint(0, 4))]
                if rng.random() < 0.5:
                    deeds = [list(deed) for deed in deeds]
                before = copy.copy(deeds)
                if rng.random() < 0.2:
                    self.same(board.undo(), plain.undo())
                else:
                    refused = plain.do(deeds)
                    if refused is None:
                        self.assertIsNone(board.attempt(deeds=deeds))
                    else:
                        number, (error, kept) = refused
                        self.refused(Stopped, {"number": number, "raised": error.__name__, "value": list(kept.values())[0]},
                                     board.attempt, tuple(deeds))
                self.assertEqual(deeds, before)
                plain.check(self, board)
            while plain.past:
                self.same(board.undo(), plain.undo())
                plain.check(self, board)
            self.same(board.undo(), False)

    def test_each_kind_alone_and_in_an_attempt(self):
        kinds = (("put", "north", "a", 4, 6), ("put", "south", "a", 1, 1), ("set", "web", Script.of("county 4; town 2")),
                 ("step", "web", Step.of("county 3")), ("frame", "web", Script.of("county 9; town 9"), None),
                 ("turn", Script.of("town 2")), ("put", "north", "a", 5, 5), ("strike", "south", "a"), ("lift", "web"),
                 ("leave", "web"), ("strike", "north", "a"))
        alone, tried, both = Board(), Board(), Board()
        for deed in kinds:
            self.assertIsNone(done(alone, deed))
            self.assertIsNone(tried.attempt((deed,)))
            self.same(told(alone), told(tried))
            self.assertEqual(alone, tried)
        self.assertIsNone(both.attempt(kinds))
        self.same(told(both), told(alone))
        for _ in kinds:
            self.same((alone.undo(), tried.undo()), (True, True))
            self.same(told(alone), told(tried))
        self.same((alone.undo(), tried.undo(), both.undo(), both.undo()), (False, False, True, False))
        self.same((told(alone), told(both)), (told(Board()), told(Board())))

    def test_what_changes_nothing_is_a_deed(self):
        board = Board()
        board["web"] = Script.of("town 2")
        board["web"] = Script.of("town 2")
        board.turn(Script())
        board.attempt(())
        board.attempt([])
        self.same([board.undo() for _ in range(6)], [True, True, True, True, True, False])

    def test_questions_are_no_deeds(self):
        board = Board()
        board["web"] = Script.of("town 2")
        board.put("north", "a", 1, 3)
        _ = told(board)
        _ = (board.effect("web", Script()), "web" in board, board == Board(), board.twin())
        self.same([board.undo(), board.undo(), board.undo()], [True, True, False])

    def test_by_name(self):
        board = Board()
        board.put(high=6, low=4, town="a", county="north")
        board["web"] = Script.of("town 5")
        board.frame(high=None, low=Script.of("town 6"), name="web")
        board.turn(script=Script.of("county 2"))
        self.same((board.towns_of(county="north"), board.frames, board.house.text, board.sure(name="web"),
                   board.maybe(name="web"), board.rows_of(county="north", name="web"), board.promise(name="web"),
                   board.effect(script=Script(), name="web")),
                  ((("a", 4, 6),), (("web", "town 6", None),), "county 2", (), (("north", "a"),), (0, 6), (5, 5), "within"))
        board.strike(town="a", county="north")
        board.lift(name="web")
        board.leave(name="web")
        self.same((board.counties, board.frames, board.names), ((), (), ()))

    def test_a_step_stands_behind(self):
        board = Board()
        board["web"] = Script.of("county 4")
        same = board
        board += ["web", Step.of("town 2")]
        self.assertIs(board, same)
        self.same(board["web"].text, "county 4; town 2")

    def test_twins_go_on_by_themselves(self):
        for seed in range(40):
            rng = random.Random(seed)
            board, plain = Board(), Plain()
            for _ in range(12):
                deed = drawn_deed(rng)
                if plain.do((deed,)) is None:
                    done(board, deed)
            twin, other = board.twin(), copy.deepcopy(plain)
            self.assertIsInstance(twin, Board)
            self.assertIsNot(twin, board)
            self.assertEqual(twin, board)
            for _ in range(25):
                here, there = rng.choice(((board, plain), (twin, other)))
                deed = drawn_deed(rng)
                if rng.random() < 0.3:
                    self.same(here.undo(), there.undo())
                elif there.do((deed,)) is None:
                    done(here, deed)
                plain.check(self, board)
                other.check(self, twin)
            while plain.undo():
                self.same(board.undo(), True)
                other.check(self, twin)
            while other.undo():
                self.same(twin.undo(), True)
            self.same((board.undo(), twin.undo(), board == twin), (False, False, True))


@functools.lru_cache(maxsize=None)
def seen(form):
    """What the Script of this FORM shows of small counties."""
    return looks(rules_of(script_of(form)), SOME)


class Shown(Case):
    def test_whatever_the_sizes_are(self):
        # Against going through all sizes.
        for seed in range(300):
            rng = random.Random(seed)
            board = Board()
            board.turn(rng.choice(SCRIPTS))
            board["web"] = rng.choice(SCRIPTS)
            book = {}
            for county in rng.sample(WORDS, rng.randint(0, 3)):
                for town in rng.sample(WORDS, rng.randint(1, 4)):
                    low = rng.randint(1, 4)
                    high = low + rng.randint(0, 3)
                    board.put(county, town, low, high)
                    book.setdefault(county, {})[town] = (low, high)
            rules = rules_of(board.house) + rules_of(board["web"])
            sure, maybe = [], []
            for county, towns in book.items():
                names = sorted(towns)
                found, rows = {town: [] for town in names}, []
                for sizes in itertools.product(*[range(towns[town][0], towns[town][1] + 1) for town in names]):
                    left = left_by(rules, sizes)
                    rows.append(sum(left))
                    for town, size in zip(names, sizes):
                        found[town].append(size in left)
                sure += [(county, town) for town in names if all(found[town])]
                maybe += [(county, town) for town in names if any(found[town])]
                self.same(board.rows_of("web", county), (min(rows), max(rows)))
            self.same((board.sure("web"), board.maybe("web")), (tuple(sorted(sure)), tuple(sorted(maybe))))

    def test_promise(self):
        # Against all small counties.
        some = bags(14, 8)
        for house, report in itertools.product(SCRIPTS, repeat=2):
            board = Board()
            board.turn(house)
            board["web"] = report
            shown = [left_by(rules_of(house) + rules_of(report), bag) for bag in some]
            self.same(board.promise("web"), (min(min(left) for left in shown if left), min(sum(left) for left in shown if left)))

    def test_idle(self):
        rng = random.Random(1)
        for _ in range(400):
            board = Board()
            house = rng.choice(SCRIPTS[::2])
            board.turn(house)
            # Few Scripts, so that some show the same behind the house one.
            some = rng.sample(SCRIPTS, 4)
            for name in rng.sample(("a", "b", "c", "web", "x"), rng.randint(0, 5)):
                board[name] = rng.choice(some)
            whole = {name: seen((house >> board[name]).form) for name in board.names}
            wanted = []
            for name in board.names:
                around = [other for other in whole if other != name and inside(whole[name], whole[other])]
                same = [other for other in whole if whole[other] == whole[name]]
                more = [other for other in around if whole[other] != whole[name]]
                if more if name == min(same) else around:
                    wanted.append(name)
            self.same(board.idle(), tuple(wanted))

    def test_idle_of_reports_that_show_the_same(self):
        board = Board()
        board["b"], board["a"] = Script.of("town 5; county 5"), Script.of("town 5")
        self.same(board.idle(), ("b",))
        board["c"] = Script.of("town 4")
        self.same(board.idle(), ("a", "b"))
        board["c"] = Script.of("county 9")
        self.same(board.idle(), ("b",))
        # Behind this house Script they all show the same.
        board.turn(Script.of("town 9"))
        self.same(board.idle(), ("b", "c"))

    def test_effect(self):
        board = Board()
        board["web"] = Script.of("county 10; town 5")
        # The house Script does not matter here.
        board.turn(Script.of("county 99"))
        self.same([board.effect("web", Script.of(text)) for text in
                   ("county 10; county 7; town 5", "town 5", "town 5; county 10", "town 6")],
                  ["alike", "within", "around", "neither"])
        for one, other in itertools.product(SCRIPTS, repeat=2):
            board["web"] = one
            self.same(board.effect("web", other), compare(one, other))
        self.same(board["web"].text, SCRIPTS[-1].text)


class Equal(Case):
    def built(self):
        """A Board with something of each."""
        board = Board()
        board.attempt((("put", "north", "a", 4, 4), ("put", "north", "b", 5, 7), ("put", "south", "a", 9, 9),
                       ("set", "web", Script.of("county 9; town 5")), ("set", "press", Script.of("town 5")),
                       ("frame", "web", None, Script.of("town 4")), ("frame", "press", Script.of("town 9"), None),
                       ("turn", Script.of("county 12"))))
        return board

    def test_built_in_different_ways(self):
        one, other = self.built(), Board()
        other["extra"] = Script()
        other["press"] = Script.of("town 5; county 5")
        other.put("south", "a", 9, 10)
        other.put("south", "z", 1, 1)
        other.turn(Script.of("county 12; county 3"))
        other.leave("extra")
        other["web"] = Script.of("county 9; town 5; county 5")
        other.frame("press", Script.of("town 9; county 9"), None)
        other.strike("south", "z")
        other.put("south", "a", 9, 9)
        other.frame("web", None, Script.of("county 1; town 4"))
        other.put("north", "b", 5, 7)
        self.same(one == other, False)
        other.put("north", "a", 4, 4)
        self.same((one == other, other == one, one != other), (True, True, False))
        # What was done and undone does not count.
        other.put("north", "a", 4, 5)
        self.same((one == other, other.undo(), one == other), (False, True, True))

    def test_one_thing_differs(self):
        one = self.built()
        self.assertEqual(one, self.built())
        for deed in (("put", "north", "a", 3, 4), ("put", "north", "a", 4, 5), ("put", "north", "c", 4, 4),
                     ("put", "east", "a", 4, 4), ("strike", "north", "a"), ("strike", "south", "a"),
                     ("set", "web", Script.of("county 10; town 5")), ("set", "more", Script()), ("leave", "web"),
                     ("step", "press", Step.of("county 6")), ("lift", "web"), ("frame", "web", None, None),
                     ("frame", "web", None, Script()), ("frame", "press", None, None),
                     ("frame", "press", Script.of("town 9"), Script()), ("turn", Script.of("county 13"))):
            other = self.built()
            done(other, deed)
            self.same((one == other, other == one, one != other), (False, False, True))
            self.same((other.undo(), one == other), (True, True))

    def test_none_is_not_the_script_without_steps(self):
        one, other = Board(), Board()
        for board, high in ((one, None), (other, Script())):
            board["web"] = Script()
            board.frame("web", None, high)
        self.same((one == other, one.frames, other.frames), (False, (("web", None, None),), (("web", None, "-"),)))

    def test_nothing_else(self):
        for board in (Board(), self.built()):
            for thing in (None, 0, "", (), [], {}, Script(), board.names, object()):
                self.same((board == thing, thing == board, board != thing), (False, False, True))


class AtTheBounds(Case):
    def test_great_boards(self):
        rng = random.Random(2)
        board = Board()
        names = ["abcdefgh"[:many] for many in range(1, 9)]
        steps = [[(rng.choice(("town", "county")), rng.randint(1, 10 ** 40)) for _ in range(40)] for _ in range(9)]
        deeds = [("put", county, town, size, size + 10 ** 39) for county in names for town in names
                 for size in (rng.randint(1, 10 ** 40),)]
        deeds += [("set", name, script_by(rules)) for name, rules in zip(names, steps)]
        deeds += [("frame", name, script_by(rules + [("town", 10 ** 40)]), Script()) for name, rules in zip(names, steps)]
        board.attempt(deeds + [("turn", script_by(steps[8]))])
        self.same((len(board), board.counties, len(board.frames)), (8, tuple(names), 8))
        for name, rules in zip(names, steps):
            whole = script_by(steps[8] + rules)
            self.same(board.promise(name), (whole.least, whole.floor(whole.least)))
            for county in names:
                towns = board.towns_of(county)
                low, high = [left_by(steps[8] + rules, [town[end] for town in towns]) for end in (1, 2)]
                self.same(board.rows_of(name, county), (sum(low), sum(high)))
                self.same([pair for pair in board.sure(name) if pair[0] == county],
                          [(county, town[0]) for town in towns if town[1] in low])
                self.same([pair for pair in board.maybe(name) if pair[0] == county],
                          [(county, town[0]) for town in towns if town[2] in high])
        self.same((board == board.twin(), board.undo(), board == Board()), (True, True, True))

    def test_great_sizes(self):
        board = Board()
        board["web"] = Script.of(f"county {3 * GREAT}; town {GREAT}")
        board.put("north", "a", GREAT - 1, GREAT)
        board.put("north", "b", 2 * GREAT, 10 ** 40)
        self.same((board.sure("web"), board.maybe("web"), board.rows_of("web", "north")),
                  ((), (("north", "a"), ("north", "b")), (0, GREAT + 10 ** 40)))


class Interface(Case):
    def test_it_is_defined_in_the_file(self):
        self.assertEqual(vars(board_file)["Board"].__module__, "smalltowns.board")
        for name in ("counties", "house", "towns_of", "names", "frames", "sure", "maybe", "rows_of", "promise", "idle",
                     "effect", "leave", "frame", "lift", "turn", "put", "strike", "attempt", "undo", "twin", "__len__",
                     "__contains__", "__getitem__", "__setitem__", "__iadd__", "__eq__", "__iter__", "__init__"):
            self.assertIn(name, vars(Board))


if __name__ == "__main__":
    unittest.main()
