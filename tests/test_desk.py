"""[16], and [2] and [3] of the same."""

import random
import unittest

from helper import Case
from models import GREAT

from smalltowns import desk
from smalltowns.board import Board
from smalltowns.desk import answers
from smalltowns.errors import BadLine, BadSize, NoFrame, NoName, NoReport, Outside
from smalltowns.scripts import Script
from smalltowns.steps import Step

NAMES = ("a", "b", "web", "abcdefgh")
SCRIPTS = ("-", "town 2", "town 3; county 5", "county 9; town 5", "county 9; town 5; county 9", "county 4; county 4")


def drawn_request(rng):
    """A drawn request: its text, and what is done with a Board for it."""
    name, county, town = rng.choice(NAMES), rng.choice(NAMES), rng.choice(NAMES)
    script, other = rng.choice(SCRIPTS), rng.choice(SCRIPTS)
    low, high = rng.randint(1, 6), rng.randint(1, 9)
    size = rng.choice((f"{low}", f"{low}..{high}", f"{low}..{low}"))
    top = high if f"..{high}" in size else low
    limit, its = rng.choice((("*", None), (script, Script.of(script)))), rng.choice((("*", None), (other, Script.of(other))))
    kind, least = rng.choice(("town", "county")), rng.randint(1, 9)

    def step(board):
        board += (name, Step(kind, least))

    return rng.choice((
        (f"report {name} {script}", lambda board: board.__setitem__(name, Script.of(script))),
        (f"report {name} {script}", lambda board: board.__setitem__(name, Script.of(script))),
        (f"leave {name}", lambda board: board.leave(name)),
        (f"lift {name}", lambda board: board.lift(name)),
        (f"step {name} {kind} {least}", step),
        (f"frame {name} from {limit[0]} .. {its[0]}", lambda board: board.frame(name, limit[1], its[1])),
        (f"house {script}", lambda board: board.turn(Script.of(script))),
        (f"put {county} {town} {size}", lambda board: board.put(county, town, low, top)),
        (f"put {county} {town} {size}", lambda board: board.put(county, town, low, top)),
        (f"strike {county} {town}", lambda board: board.strike(county, town)),
        (f"book {county}", lambda board: " ".join(
            [f"{own} {lowest}" + (f"..{most}" if most > lowest else "") for own, lowest, most in board.towns_of(county)])),
        (f"sure {name}", lambda board: " ".join([f"{one}/{two}" for one, two in board.sure(name)]) or "-"),
        (f"maybe {name}", lambda board: " ".join([f"{one}/{two}" for one, two in board.maybe(name)]) or "-"),
        (f"rows {name} {county}", lambda board: "{} {}".format(*board.rows_of(name, county))),
        (f"promise {name}", lambda board: "{} {}".format(*board.promise(name))),
        ("idle", lambda board: " ".join(board.idle()) or "-"),
        (f"effect {name} {script}", lambda board: board.effect(name, Script.of(script))),
        ("undo", lambda board: "yes" if board.undo() else "no"),
    ))


def done(board, act):
    """The answer to what is done with a Board."""
    try:
        answer = act(board)
    except (NoReport, NoFrame, NoName, BadSize, Outside) as error:
        return f"refused {error.__class__.__name__}"
    return "done" if answer is None else answer


class Examples(Case):
    """What DOC.md shows in [16]."""

    def test_requests(self):
        self.same(answers("put north a 4\nput north b 5..7\nreport web county 9; town 5\nsure web\nrows web north\n"
                          "house county 10\nsure web\nmaybe web\nbook north\npromise web\nstrike north c\nundo\nsure web\n"
                          "put north a 3..2"),
                  ["done", "done", "done", "north/b", "5 7", "done", "-", "north/b", "a 4 b 5..7", "5 5", "refused NoName",
                   "yes", "north/b", "refused BadSize"])

    def test_few_of_them(self):
        self.same((answers(""), answers("idle\nundo\nlift a")), ([], ["-", "no", "refused NoReport"]))
        self.refused(BadLine, {"number": 1}, answers, "idle\nidle all")


class Requests(Case):
    """Each request with its answers."""

    AHEAD = ("report web county 9; town 5", "report press town 5; county 9", "put north a 4", "put north b 5..7",
             "put south a 9..9", "frame web from * .. town 4")

    def check(self, *pairs):
        """Requests behind those ahead, each with its answer."""
        text = "\n".join([*self.AHEAD, *[request for request, _ in pairs]])
        found = answers(text)
        self.assertIsInstance(found, list)
        self.same(found, ["done"] * len(self.AHEAD) + [answer for _, answer in pairs])
        self.same(answers(text=text), found)

    def test_reports(self):
        self.check(("report web county 20; town 5", "done"), ("report web county 20", "refused Outside"),
                   ("promise web", "5 5"), ("report new -", "done"), ("promise new", "1 1"), ("leave new", "done"),
                   ("leave new", "refused NoReport"), ("promise new", "refused NoReport"))

    def test_leaving_takes_the_frame(self):
        self.check(("leave web", "done"), ("report web -", "done"), ("lift web", "refused NoFrame"), ("undo", "yes"),
                   ("undo", "yes"), ("lift web", "done"))

    def test_lifting(self):
        self.check(("lift web", "done"), ("lift web", "refused NoFrame"), ("lift press", "refused NoFrame"),
                   ("lift new", "refused NoReport"), ("report web county 20", "done"))

    def test_steps(self):
        self.check(("step web county 7", "done"), ("promise web", "5 7"), ("step new town 2", "refused NoReport"),
                   ("frame web from town 6; county 9 .. *", "done"), ("step web town 8", "refused Outside"),
                   ("promise web", "5 7"))

    def test_frames(self):
        self.check(("frame new from * .. *", "refused NoReport"), ("frame web from * .. town 6", "refused Outside"),
                   ("frame web from town 6; county 10 .. *", "done"), ("report web -", "done"),
                   ("report web town 6; county 11", "refused Outside"), ("frame press from * .. *", "done"),
                   ("frame press from town 5; county 9; county 3 .. county 9; county 5; town 5", "done"),
                   ("report press -", "refused Outside"), ("report press county 9; town 5", "done"))

    def test_the_house(self):
        self.check(("house county 12", "done"), ("sure web", "-"),
                   ("maybe web", "-"), ("house -", "done"), ("sure web", "north/b south/a"), ("undo", "yes"), ("undo", "yes"),
                   ("house county 10", "done"), ("maybe web", "north/b"))

    def test_the_book(self):
        self.check(("book north", "a 4 b 5..7"), ("book south", "a 9"), ("book east", "refused NoName"),
                   ("put east a 3..2", "refused BadSize"), ("book east", "refused NoName"), ("put east a 2..2", "done"),
                   ("put east a 2..3", "done"), ("book east", "a 2..3"), ("strike east b", "refused NoName"),
                   ("strike east a", "done"), ("book east", "refused NoName"), ("strike east a", "refused NoName"))

    def test_what_is_shown(self):
        self.check(("sure web", "north/b south/a"), ("maybe web", "north/b south/a"), ("sure press", "south/a"),
                   ("maybe press", "south/a"), ("rows web north", "5 7"), ("rows press north", "0 0"),
                   ("rows press south", "9 9"), ("sure new", "refused NoReport"), ("maybe new", "refused NoReport"),
                   ("rows new north", "refused NoReport"), ("rows new east", "refused NoReport"),
                   ("rows web east", "refused NoName"))

    def test_promise_idle_and_effect(self):
        self.check(("promise web", "5 5"), ("promise press", "5 9"), ("promise new", "refused NoReport"), ("idle", "press"),
                   ("report all -", "done"), ("idle", "press web"), ("effect web town 5", "within"),
                   ("effect web county 9; town 5; county 2", "alike"), ("effect web town 5; county 9", "around"),
                   ("effect web town 6", "neither"), ("effect new town 6", "refused NoReport"))

    def test_undo(self):
        self.check(*[("undo", "yes")] * 6, ("undo", "no"), ("idle", "-"), ("book north", "refused NoName"))
        self.check(("put north a 3..2", "refused BadSize"), ("undo", "yes"), ("lift web", "refused NoFrame"))
        # What changes nothing is a deed, too, a question is none.
        self.check(("house -", "done"), ("idle", "press"), ("undo", "yes"), ("lift web", "done"))

    def test_great_numbers(self):
        self.same(answers(f"put a b {10 ** 40}..{10 ** 41}\nreport c county {GREAT}\nrows c a\npromise c\nbook a"),
                  ["done", "done", f"{10 ** 40} {10 ** 41}", f"1 {GREAT}", f"b {10 ** 40}..{10 ** 41}"])

    def test_names_that_are_words_of_requests(self):
        self.same(answers("report report -\nput put put 3\nframe frame from * .. *\nreport from town 2\n"
                          "frame from from * .. *\nbook put\nsure report\nrows from put\nstrike put put\nlift from"),
                  ["done", "done", "refused NoReport", "done", "done", "put 3", "put/put", "3 3", "done", "done"])


class Drawn(Case):
    def test_beside_a_board(self):
        refused = set()
        for seed in range(500):
            rng = random.Random(seed)
            board, lines, wanted = Board(), [], []
            for _ in range(rng.randint(1, 60)):
                line, act = drawn_request(rng)
                lines.append(line)
                wanted.append(done(board, act))
            text = "\n".join(lines)
            self.same(answers(text), wanted)
            refused |= {answer for answer in wanted if answer.startswith("refused")}
        self.same(sorted(refused), ["refused BadSize", "refused NoFrame", "refused NoName", "refused NoReport",
                                    "refused Outside"])

    def test_each_list_is_new(self):
        found = answers("idle\nundo")
        found.append("more")
        self.same(answers("idle\nundo"), ["-", "no"])

    def test_each_text_begins_with_an_empty_board(self):
        self.same((answers("report a -"), answers("leave a")), (["done"], ["refused NoReport"]))


RIGHT = ("report web county 9; town 5", "leave web", "lift web", "step web town 5", "frame web from * .. town 4",
         "frame web from county 9; town 3 .. *", "house -", "house county 3", "put north a 4", "put north a 4..7",
         "strike north a", "book north", "sure web", "maybe web", "rows web north", "promise web", "idle",
         "effect web town 5; county 9", "undo")

WRONG = ("", " ", "-", "report", "report ", "report web", "report web ", "report web town", "report web town 0",
         "report web town 05", "report web town 5;", "report web land 3", "report town 5", "report Web town 5",
         "report abcdefghi town 5", "report w1 town 5", "report web: town 5", "report web (town 5) x 2", "report web *",
         "report web town 5 county 9", "report web country 9", "Report web town 5", "leave", "leave ", "leave web web",
         "leave 1", "leave abcdefghi", "lift", "lift web press", "lift WEB", "step", "step web", "step web -",
         "step web town 5; county 9", "step web town", "step web town 0", "step web 5", "step town 5", "step web *",
         "frame", "frame web", "frame web from", "frame web from *", "frame web from * ..", "frame web from * .. ",
         "frame web * .. *", "frame web to * .. *", "frame from * .. *", "frame web from *..*", "frame web from * .. town 0",
         "frame web from None .. *", "frame web from * .. * .. *", "frame web from (town 5) x 2 .. *", "house", "house ",
         "house *", "house town", "house town 5;county 9", "house -; -", "house web town 5", "put", "put north",
         "put north a", "put north a ", "put north a 0", "put north a 04", "put north a 4..", "put north a ..4",
         "put north a 4...5", "put north a 4 5", "put north a 4.5", "put north a 0..4", "put north a 4..05", "put north a -1",
         "put north a b", "put north 4", "put North a 4", "put north abcdefghi 4", "put north a 4..5..6", "put north a 4 ..5",
         "put north a +4", "strike", "strike north", "strike north a b", "strike north 4", "book", "book north a", "book 1",
         "sure", "sure web north", "sure Web", "maybe", "maybe web north", "rows", "rows web", "rows web north a",
         "rows web 4", "promise", "promise web web", "idle all", "idles", "Idle", "effect", "effect web", "effect web town",
         "effect town 5", "undo 1", "undone", "undo undo", "redo", "set web town 5", "turn town 5", "attempt", "twin", "# web",
         "step web country 5", "names", "frames", "counties", "house: -", "web: town 5", "north has a 4")


class BadLines(Case):
    def test_each_right_line_is_one(self):
        for line in RIGHT:
            self.same(len(answers(line)), 1)
        self.same(len(answers("\n".join(RIGHT))), len(RIGHT))

    def test_each_wrong_line(self):
        for line in WRONG:
            if line:
                self.refused(BadLine, {"number": 0}, answers, line)
            self.refused(BadLine, {"number": 0}, answers, f"{line}\nidle")
            self.refused(BadLine, {"number": 2}, answers, f"idle\nlift web\n{line}")
            self.refused(BadLine, {"number": 1}, answers, f"idle\n{line}\nalso wrong\n\nundo")
            self.refused(BadLine, {"number": 1}, answers, text=f"idle\n{line}")

    def test_blanks_doubled_missing_or_at_an_end(self):
        for line in RIGHT:
            for wrong in (f" {line}", f"{line} ", f"\t{line}", f"{line}\t", f"{line}\r", f"  {line}"):
                self.refused(BadLine, {"number": 1}, answers, f"idle\n{wrong}")
            for place, sign in enumerate(line):
                if sign == " ":
                    for wrong in (line[:place] + " " + line[place:], line[:place] + line[place + 1:],
                                  line[:place] + "\t" + line[place + 1:], line[:place] + "\n" + line[place + 1:]):
                        if wrong.split("\n")[0] not in RIGHT:
                            self.refused(BadLine, {"number": 0}, answers, wrong)

    def test_line_feeds(self):
        for text, number in (("\n", 0), ("idle\n", 1), ("\nidle", 0), ("idle\n\nidle", 1), ("idle\nundo\n\n", 2)):
            self.refused(BadLine, {"number": number}, answers, text)

    def test_ahead_of_all_answers(self):
        # Also where a request ahead of it is refused, and for the first wrong line of several.
        for text, number in (("lift web\nput a b 3..2\nput a b 3..", 2), ("report web -\nreport web\nidle all", 1)):
            self.refused(BadLine, {"number": number}, answers, text)

    def test_digits_and_letters_of_other_alphabets(self):
        for line in ("put north a \u0663", "put north \u00e4 3", "report w\u00e9b -", "step web town \u00b2", "book \u03b1"):
            self.refused(BadLine, {"number": 0}, answers, line)


class Interface(Case):
    def test_it_is_defined_in_the_file(self):
        self.assertEqual(vars(desk)["answers"].__module__, "smalltowns.desk")


if __name__ == "__main__":
    unittest.main()
