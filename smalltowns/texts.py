"""Texts of programs and of Boards."""

from smalltowns.board import board_of
from smalltowns.deeds import after, first_state
from smalltowns.errors import BadLine, BadText, NoReport, Outside
from smalltowns.scripts import Script
from smalltowns.steps import Step
from smalltowns.values import digits_of, number_in

DEEPEST = 20
LETTERS = "abcdefghijklmnopqrstuvwxyz"

# The parts of a Board's text, in their order.
COUNTY = 0
REPORT = 1
FRAME = 2
HOUSE = 3


def program_of(text):
    """The plain form of the program with this text."""
    if text == "-":
        return Script()
    script, end = program_at(text, 0, 0)
    if end != len(text):
        raise BadText()
    return script.plain


def program_at(text, start, depth):
    """The Script of the items from this place on, and the place behind them."""
    script, end = item_at(text, start, depth)
    steps = list(script.steps)
    while text[end:end + 2] == "; ":
        script, end = item_at(text, end + 2, depth)
        steps.extend(script.steps)
    return Script(steps), end


def item_at(text, start, depth):
    """The Script of one item, in so many brackets, and the place behind it."""
    if text[start:start + 1] != "(":
        end = start
        while end < len(text) and text[end] not in ";)":
            end = end + 1
        return Script([Step.of(text[start:end])]), end
    if depth == DEEPEST:
        raise BadText()
    script, end = program_at(text, start + 1, depth + 1)
    if text[end:end + 4] != ") x ":
        raise BadText()
    start = end + 4
    end = start
    while end < len(text) and text[end].isdigit():
        end = end + 1
    times = number_in(text[start:end])
    if times is None:
        raise BadText()
    return script * times, end


def is_name(word):
    """Whether this is a NAME: 1 to 8 letters."""
    return 0 < len(word) < 9 and all([letter in LETTERS for letter in word])


def name_in(word):
    """The NAME with this text."""
    if not is_name(word):
        raise BadText()
    return word


def size_text(low, high):
    """The text of the sizes from low to high."""
    if low == high:
        return digits_of(low)
    return f"{digits_of(low)}..{digits_of(high)}"


def sizes_in(word):
    """The pair (low, high) with this text: one number, or two; high may be less."""
    low, dots, high = word.partition("..")
    sizes = (number_in(low), number_in(high if dots else low))
    if None in sizes or 0 in sizes:
        raise BadText()
    return sizes


def towns_text(towns):
    """The text of these triples (town, low, high)."""
    return " ".join([f"{town} {size_text(low, high)}" for town, low, high in towns])


def limit_text(text):
    """This text of a Script in a frame, a star for None."""
    return "*" if text is None else text


def limit_in(text):
    """The Script with this text, None for a star."""
    if text == "*":
        return None
    return Script.of(text)


def board_text(board):
    """The text of the Board, line by line."""
    lines = [f"{county} has {towns_text(board.towns_of(county))}" for county in board.counties]
    lines = lines + [f"{name}: {board[name].text}" for name in board.names]
    lines = lines + [f"{name} from {limit_text(low)} .. {limit_text(high)}" for name, low, high in board.frames]
    return "\n".join([*lines, f"house {board.house.text}"])


def board_in(text):
    """The Board with this text, without a deed to take back."""
    state = first_state()
    ahead = (COUNTY, "")
    lines = text.split("\n")
    for number, line in enumerate(lines):
        try:
            place, deeds = line_in(line)
            # Each part, and within each part each NAME, comes behind the one ahead.
            if place <= ahead:
                raise BadLine(number)
            for deed in deeds:
                state = after(state, deed)
        except (BadText, NoReport, Outside):
            raise BadLine(number) from None
        ahead = place
    if ahead[0] != HOUSE:
        raise BadLine(len(lines))
    return board_of(state)


def line_in(line):
    """The place (part, NAME) of a line of a Board's text, and the deeds that it tells."""
    first, _, rest = line.partition(" ")
    second, _, tail = rest.partition(" ")
    if second == "has":
        return (COUNTY, name_in(first)), puts_in(first, tail)
    if second == "from":
        low, high = limits_in(tail)
        return (FRAME, name_in(first)), [("frame", first, plain_limit(low), plain_limit(high))]
    if first == "house":
        return (HOUSE, ""), [("turn", Script.of(rest))]
    if first[-1:] != ":":
        raise BadText()
    name = name_in(first[:-1])
    return (REPORT, name), [("set", name, Script.of(rest))]


def puts_in(county, text):
    """The deeds that put these towns into the county: ascending, each with its sizes as they must be written."""
    words = text.split(" ")
    towns = [name_in(word) for word in words[::2]]
    sizes = [sizes_in(word) for word in words[1::2]]
    if len(towns) != len(sizes):
        raise BadText()
    triples = [(town, low, high) for town, (low, high) in zip(towns, sizes)]
    rising = all([one < other for one, other in zip(towns, towns[1:])])
    if not rising or towns_text(triples) != text or any([low > high for _, low, high in triples]):
        raise BadText()
    return [("put", county, town, low, high) for town, low, high in triples]


def limits_in(text):
    """Both texts of a frame."""
    low, dots, high = text.partition(" .. ")
    if dots == "":
        raise BadText()
    return low, high


def plain_limit(text):
    """The Script of this plain text, None for a star."""
    script = limit_in(text)
    if script is not None and script.plain.text != text:
        raise BadText()
    return script
