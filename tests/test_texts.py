"""[15], and [2] and [3] of the same."""

import random
import re
import unittest

from helper import Case
from models import GREAT, script_by

from smalltowns import texts
from smalltowns.board import Board
from smalltowns.errors import BadLine, BadText
from smalltowns.scripts import Script
from smalltowns.texts import board_in, board_text, program_of

ITEM = r"(?:town|county) [1-9][0-9]*"
PROGRAM = rf"{ITEM}(?:; {ITEM})*"
BRACKETS = re.compile(rf"\({PROGRAM}\) x (?:0|[1-9][0-9]*)(?![0-9])")


def is_program(text):
    """Whether this is the text of a program: brackets are taken for a step, from the inner ones on."""
    depth, deepest = 0, 0
    for sign in text:
        depth += (sign == "(") - (sign == ")")
        deepest = max(deepest, depth)
    rest, before = text, None
    while rest != before:
        rest, before = BRACKETS.sub("town 1", rest), rest
    return text == "-" or deepest <= 20 and re.fullmatch(PROGRAM, rest) is not None


def drawn_program(rng, depth):
    """A drawn program: its text, and its steps one by one; what is done very often is done three times."""
    words, steps = [], []
    for _ in range(rng.randint(1, 3)):
        if depth == 0 or rng.random() < 0.5:
            kind, least = rng.choice(("town", "county")), rng.randint(1, 9)
            words.append(f"{kind} {least}")
            steps.append((kind, least))
        else:
            inner, inside = drawn_program(rng, depth - 1)
            times = rng.choice((0, 1, 2, 3, 10 ** 40))
            words.append(f"({inner}) x {times}")
            steps += inside * min(times, 3)
    return "; ".join(words), steps


def changed(rng, text):
    """The text with a sign more or fewer, or another one."""
    place = rng.randint(0, len(text))
    signs = " ();x-0159town" + "county:.*\n"
    return rng.choice((text[:place] + rng.choice(signs) + text[place:], text[:place] + text[place + 1:],
                       text[:place] + rng.choice(signs) + text[place + 1:],
                       text[:place] + text[place:place + 1] + text[place:]))


class Examples(Case):
    """What DOC.md shows in [15]."""

    def test_programs(self):
        self.same((program_of("(county 10; town 5) x 2").text, program_of("(town 3; county 4) x 0; county 7").text,
                   program_of("((town 2) x 3; county 9) x 10000000000").text),
                  ("town 5; county 10", "county 7", "town 2; county 9"))
        self.refused(BadText, {}, program_of, "(town 2)x 3")

    def test_boards(self):
        text = "north has a 4 b 5..7\nweb: county 9; town 5\nweb from * .. town 4\nhouse -"
        board = board_in(text)
        self.same((board.towns_of("north"), board.sure("web"), board.frames, board.undo()),
                  ((("a", 4, 4), ("b", 5, 7)), (("north", "b"),), (("web", None, "town 4"),), False))
        self.same(board_text(board), text)
        self.refused(BadLine, {"number": 0}, board_in, "north has b 4 a 5\nhouse -")


class Programs(Case):
    def test_steps_alone(self):
        for text in ("-", "town 5", "county 10; town 5", "county 1; town 1", f"town {10 ** 40}; county {10 ** 41}"):
            self.same(program_of(text).text, Script.of(text).plain.text)
            self.same(program_of(text=text).text, program_of(text).text)

    def test_times(self):
        mixed = "county 10; town 5"
        wanted = {0: "-", 1: "county 10; town 5", 2: "town 5; county 10", 3: "town 5; county 10"}
        for times in (0, 1, 2, 3, 10, 10 ** 40):
            text = wanted.get(times, wanted[3])
            self.same(program_of(f"({mixed}) x {times}").text, text)
            self.same(program_of(f"town 2; ({mixed}) x {times}; town 2").text,
                      Script.of("town 2" if text == "-" else f"town 2; {text}").plain.text)
        self.same(program_of("((town 5) x 0) x 7").text, "-")
        self.same(program_of("((town 5) x 7) x 0").text, "-")
        self.same(program_of("((county 10; town 5) x 1) x 2").text, "town 5; county 10")

    def test_drawn_ones(self):
        rng = random.Random(1)
        for _ in range(600):
            text, steps = drawn_program(rng, 4)
            found = program_of(text)
            self.same((found.text, is_program(text)), (script_by(steps).plain.text, True))

    def test_how_deep_brackets_stand(self):
        for depth in (1, 2, 19, 20, 21, 22, 60, 400):
            text = "(" * depth + "county 10; town 5" + ") x 1" * depth
            if depth <= 20:
                self.same(program_of(text).text, "county 10; town 5")
                self.same(program_of(f"town 1; {text}; {text}").text, "town 5; county 10")
            else:
                self.refused(BadText, {}, program_of, text)
                self.refused(BadText, {}, program_of, f"{text}; town 2")
        deep = "(" * 20 + "town 5" + ") x 1" * 20
        self.same(program_of("; ".join([deep] * 40)).text, "town 5")
        self.refused(BadText, {}, program_of, f"({deep}) x 0")

    def test_many_items(self):
        self.same(program_of("; ".join([f"(town {size}; county {500 - size}) x 1" for size in range(2, 40)])).text,
                  Script.of("; ".join([f"town {size}; county {500 - size}" for size in range(2, 40)])).plain.text)

    def test_texts_of_none(self):
        for text in ("", " ", "--", "- ", " -", "-; -", "-; town 2", "town 2; -", "(-) x 2", "() x 2", "(town 2; -) x 2",
                     "(-) x 0", "town", "town ", "town 0", "town 05", "town 5 ", " town 5", "town  5", "town 5;",
                     "town 5; ", "; town 5", "town 5;county 10", "town 5 ; county 10", "town 5;  county 10", "land 3",
                     "(town 2)", "(town 2) x", "(town 2) x ", "(town 2)x 3", "(town 2) x3", "(town 2)  x 3",
                     "(town 2) x  3", "( town 2) x 3", "(town 2 ) x 3", "(town 2) x 03", "(town 2) x 00", "(town 2) x -1",
                     "(town 2) x 3 ", "(town 2) x 3;", "(town 2) x 3; ", "(town 2) x 3 x 3", "(town 2) X 3",
                     "(town 2 x 3", "town 2) x 3", "((town 2) x 3", "(town 2)) x 3", "(town 2) x 3)", "(town 2) x +3",
                     "(town 2; ) x 3", "(town 2;) x 3", "(; town 2) x 3", "(town 2) x 3county 4", "(town 2) x 3 county 4",
                     "town 2 (town 3) x 2", "town 2(town 3) x 2", "(town 2) x (town 3)", "town (2) x 3", "(((", ")", "(",
                     "()", "country 5", "(country 5) x 2", "town 2\n", "town 2; \ncounty 3", "(town 2) * 3", "[town 2] x 3",
                     "town 2, county 3", "(town 2) x 1.5", "(town 2) x 3x", "x 3", "town x 3", "-x 3"):
            self.refused(BadText, {}, program_of, text)
            self.refused(BadText, {}, program_of, text=text)
            self.same(is_program(text), False)

    def test_changed_ones(self):
        rng = random.Random(2)
        right = 0
        for _ in range(3000):
            text = changed(rng, drawn_program(rng, 3)[0])
            if is_program(text):
                right += 1
                self.same(program_of(text).text, program_of(text).plain.text)
            else:
                self.refused(BadText, {}, program_of, text)
        self.assertGreater(right, 300)

    def test_digits_of_other_alphabets(self):
        for digit in ("\u0663", "\u00b2", "\uff13"):
            for text in (f"town {digit}", f"(town 2) x {digit}", f"(town 2) x 1{digit}"):
                self.refused(BadText, {}, program_of, text)

    def test_very_many_digits(self):
        self.same(program_of("(county 10; town 5) x 1" + "0" * 9000).text, "town 5; county 10")


NAMES = ("a", "b", "north", "web", "house", "has", "from", "abcdefgh")


def drawn_board(rng):
    """A Board on which all kinds of things were done."""
    board = Board()
    for county in rng.sample(NAMES, rng.randint(0, 4)):
        for town in rng.sample(NAMES, rng.randint(1, 4)):
            low = rng.choice((rng.randint(1, 99), GREAT))
            board.put(county, town, low, low + rng.choice((0, 0, 1, 7, GREAT)))
    for name in rng.sample(NAMES, rng.randint(0, 4)):
        board[name] = script_by([(rng.choice(("town", "county")), rng.randint(1, 30)) for _ in range(rng.randint(0, 4))])
        if rng.random() < 0.6:
            low = board[name] >> script_by([("county", rng.randint(1, 40))])
            board.frame(name, rng.choice((None, low)), rng.choice((None, board[name], Script())))
    if rng.random() < 0.7:
        board.turn(script_by([(rng.choice(("town", "county")), rng.randint(1, 9)) for _ in range(rng.randint(0, 4))]))
    return board


def plain_text(board):
    """The text of a Board, as the words of [15] tell it."""
    lines = []
    for county in board.counties:
        line = f"{county} has"
        for town, low, high in board.towns_of(county):
            line += f" {town} {low}" + (f"..{high}" if high > low else "")
        lines.append(line)
    lines += [f"{name}: {board[name].text}" for name in board.names]
    for name, low, high in board.frames:
        lines.append(f"{name} from {'*' if low is None else low} .. {'*' if high is None else high}")
    return "\n".join(lines + [f"house {board.house.text}"])


class Boards(Case):
    def test_there_and_back(self):
        for seed in range(400):
            board = drawn_board(random.Random(seed))
            text = board_text(board)
            self.same(text, plain_text(board))
            back = board_in(text)
            self.assertIsInstance(back, Board)
            self.assertEqual(back, board)
            self.same((board_text(back), board_text(board=back)), (text, text))
            self.same((back.house.text, [back[name].text for name in back.names]),
                      (board.house.text, [board[name].text for name in board.names]))
            self.same((back.undo(), board_in(text=text) == board), (False, True))

    def test_the_board_goes_on(self):
        board = board_in("web: town 2\nweb from * .. town 2\nhouse town 3")
        board.put("north", "a", 3, 4)
        board.lift("web")
        self.same(board_text(board), "north has a 3..4\nweb: town 2\nhouse town 3")
        self.same((board.undo(), board.undo(), board.undo()), (True, True, False))
        self.same(board_text(board), "web: town 2\nweb from * .. town 2\nhouse town 3")

    def test_an_empty_one(self):
        self.same((board_text(Board()), board_in("house -") == Board()), ("house -", True))

    def test_names_that_are_words_of_the_text(self):
        text = ("from has from 1 has 2 house 3\nhas has has 4\nhouse has a 4\nfrom: town 2\nhas: -\nhouse: county 5\n"
                "from from * .. *\nhas from town 2 .. *\nhouse from * .. -\nhouse town 9; county 20")
        board = board_in(text)
        self.same((board.counties, board.names, board.house.text, board_text(board)),
                  (("from", "has", "house"), ("from", "has", "house"), "town 9; county 20", text))

    def check_wrong(self, lines, number):
        """The line of this number is the first wrong one."""
        text = "\n".join(lines)
        self.refused(BadLine, {"number": number}, board_in, text)
        self.refused(BadLine, {"number": number}, board_in, text=text)

    def test_lines_that_are_not_so_written(self):
        county = ["north has", "north has ", "north has a", "north has a ", "north has a 0", "north has a 04",
                  "north has a 4 ", " north has a 4", "north  has a 4", "north has  a 4", "north has a  4",
                  "north has a 4  b 5", "north has a 4 b", "north has a 4..4", "north has a 4..3", "north has a 4..",
                  "north has a ..4", "north has a 4...5", "north has a 4.5", "north has a 4 ..5", "north has a 4.. 5",
                  "north has a 0..4", "north has a 4..05", "north has b 4 a 5", "north has a 4 a 5", "north has a 4 a 4",
                  "North has a 4", "north has A 4", "n0rth has a 4", "northward has a 4x", "abcdefghi has a 4",
                  "north has abcdefghi 4", " has a 4", "north has 4 a", "north has a 4 5", "north has a b", "north has a -1",
                  "north has a +1", "north has a 4,b 5", "north has a 4;", "north had a 4", "north has a 4 b 5..", "has a 4"]
        report = ["web:", "web: ", "web:town 5", "web : town 5", "web:  town 5", "web: town 5 ", "web: town 05",
                  "web: town 5;", "web: town 5;county 9", "web: (town 5) x 2", "web: land 5", "web: - ", "web: --",
                  ": town 5", "Web: town 5", "abcdefghi: town 5", "web; town 5", " web: town 5", "web town 5", "we b: -",
                  "web:: -", "web: country 5", "web: *"]
        house = ["house", "house ", "house  -", "house - ", "house town", "house town 0", " house -", "House -", "house: ",
                 "house *", "house (town 2) x 2", "house -\t", "hous -", "houses -", "house -; -", "house country 3"]
        for line in county + report + house + ["", " ", "-", "web", "*", "# web", "web from * .. *"]:
            self.check_wrong([line], 0)
            self.check_wrong([line, "house -"], 0)
            self.check_wrong(["a has a 1", line, "house -"], 1)
            self.check_wrong(["a has a 1", "a: -", "b: town 7", line, "also wrong", "house -"], 3)

    def test_frames_that_are_not_so_written(self):
        ahead = ["north has a 4", "web: county 9; town 5"]
        for frame in ("web from", "web from ", "web from *", "web from * ..", "web from * .. ", "web from *..*",
                      "web from * .. * ", "web from  * .. *", "web from *  .. *", "web from * ..  *", "web  from * .. *",
                      " web from * .. *", "web from * .. town", "web from * .. town 04", "web from ** .. *",
                      "web from None .. *", "web from * .. * .. *", "web from * .. town 4; town 4",
                      "web from * .. town 4; county 4", "web from * .. county 1", "web from town 1 .. *",
                      "web from county 9; county 9; town 5 .. *", "web from town 5; county 5 .. *", "web from . .. *",
                      "web from * .. town 6", "web from county 8; town 5 .. *", "web from town 5 .. *",
                      "web from * .. county 10", "press from * .. *", "web from - .. *", "Web from * .. *"):
            self.check_wrong(ahead + [frame], 2)
            self.check_wrong(ahead + [frame, "house -"], 2)
        for frame in ("web from * .. *", "web from * .. -", "web from town 5; county 9 .. *",
                      "web from county 9; town 5 .. county 9; town 5"):
            self.same(board_text(board_in("\n".join(ahead + [frame, "house -"]))), "\n".join(ahead + [frame, "house -"]))

    def test_lines_at_the_wrong_place(self):
        right = ["a has a 1", "b has a 1", "web: -", "x: -", "web from * .. *", "x from * .. *", "house -"]
        self.same(board_text(board_in("\n".join(right))), "\n".join(right))
        for place in range(len(right)):
            # Each line twice; with the one behind it ahead of it; at the end.
            self.check_wrong(right[:place + 1] + right[place:], place + 1)
            if place + 1 < len(right):
                swapped = right[:place] + [right[place + 1], right[place]] + right[place + 2:]
                # A frame cannot stand ahead of the only report.
                self.check_wrong(swapped, place + 1)
        for line in right:
            self.check_wrong(right + [line], 7)
        self.check_wrong(right + [""], 7)
        self.check_wrong(["x: -", "web from * .. *"], 1)
        self.check_wrong(["a has a 1", "a has b 1", "house -"], 1)
        self.check_wrong(["house -", "a has a 1"], 1)
        self.check_wrong(["web from * .. *", "web: -", "house -"], 0)

    def test_a_missing_last_line(self):
        right = ["a has a 1", "b has a 1", "web: -", "x: -", "web from * .. *", "x from * .. *"]
        for many in range(1, 7):
            self.check_wrong(right[:many], many)

    def test_no_characters_and_line_feeds(self):
        for text, number in (("", 0), ("\n", 0), ("\n\n", 0), ("house -\n", 1), ("\nhouse -", 0), ("house -\n\n", 1),
                             ("a has a 1\n\nhouse -", 1), ("a has a 1\n", 1), ("house -\r\n", 0), ("a has a 1\r\nhouse -", 0)):
            self.refused(BadLine, {"number": number}, board_in, text)

    def test_changed_ones(self):
        rng = random.Random(3)
        right = 0
        for _ in range(3000):
            text = changed(rng, board_text(drawn_board(rng)))
            lines = text.split("\n")
            try:
                board = board_in(text)
            except BadLine as error:
                number = error.number
                if number < len(lines) and number > 0 and not lines[number - 1].startswith("house "):
                    # What is ahead of it is right, and it is wrong whatever comes behind.
                    self.same(board_text(board_in("\n".join(lines[:number] + ["house -"]))).split("\n")[:-1], lines[:number])
                self.refused(BadLine, {"number": number}, board_in, "\n".join(lines[:number + 1]))
            else:
                right += 1
                self.same((board_text(board), plain_text(board)), (text, text))
        self.assertGreater(right, 100)

    def test_great_boards(self):
        rng = random.Random(4)
        names = [letter * 8 for letter in "abcdefgh"]
        board = Board()
        for county in names:
            for town in names:
                low = rng.randint(1, 10 ** 40)
                board.put(county, town, low, 10 ** 40)
        for name in names:
            board[name] = script_by([(rng.choice(("town", "county")), rng.randint(1, 10 ** 9)) for _ in range(40)])
            board.frame(name, board[name], board[name])
        text = board_text(board)
        self.same((text, board_text(board_in(text)), board_in(text) == board), (plain_text(board), text, True))


class Interface(Case):
    def test_they_are_defined_in_the_file(self):
        for name in ("program_of", "board_text", "board_in"):
            self.assertEqual(vars(texts)[name].__module__, "smalltowns.texts")


if __name__ == "__main__":
    unittest.main()
