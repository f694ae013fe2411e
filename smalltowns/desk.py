"""A desk: requests, one in a line, that are done on a Board one after another."""

from smalltowns.board import Board
from smalltowns.errors import BadLine, BadText, NoName, NoReport, Stopped
from smalltowns.scripts import Script
from smalltowns.steps import Step
from smalltowns.texts import limit_in, limits_in, name_in, sizes_in, towns_text
from smalltowns.values import digits_of


def answers(text):
    """The answers to the requests of the text."""
    if text == "":
        return []
    requests = [request_at(number, line) for number, line in enumerate(text.split("\n"))]
    board = Board()
    return [answer(board, request) for request in requests]


def request_at(number, line):
    """The request of this line: a tuple of its kind and what it names."""
    try:
        return request_in(line)
    except BadText:
        raise BadLine(number) from None


def request_in(line):
    """The request with this text."""
    if line in ("idle", "undo"):
        return (line,)
    word, _, rest = line.partition(" ")
    if word not in READERS:
        raise BadText()
    read = READERS[word]
    return read(word, rest)


def named_in(word, rest):
    """The request of this word and NAME."""
    return word, name_in(rest)


def two_named_in(word, rest):
    """The request of this word, NAME and NAME."""
    name, _, other = rest.partition(" ")
    return word, name_in(name), name_in(other)


def script_in(word, rest):
    """The request of this word, NAME and SCRIPT."""
    name, _, text = rest.partition(" ")
    return word, name_in(name), Script.of(text)


def report_in(word, rest):
    """The deed that sets a report: NAME and SCRIPT."""
    return script_in("set", rest)


def step_in(word, rest):
    """The deed of this word, NAME and STEP."""
    name, _, text = rest.partition(" ")
    return word, name_in(name), Step.of(text)


def frame_in(word, rest):
    """The deed of this word, NAME, from, LOW, .. and HIGH."""
    name, _, tail = rest.partition(" ")
    start, _, text = tail.partition(" ")
    if start != "from":
        raise BadText()
    low, high = limits_in(text)
    return word, name_in(name), limit_in(low), limit_in(high)


def house_in(word, rest):
    """The deed that turns the house SCRIPT."""
    return "turn", Script.of(rest)


def put_in(word, rest):
    """The deed of this word, COUNTY, TOWN and SIZE."""
    county, _, tail = rest.partition(" ")
    town, _, size = tail.partition(" ")
    low, high = sizes_in(size)
    return word, name_in(county), name_in(town), low, high


# By the first word of a request: what reads the others.
READERS = {
    "report": report_in,
    "leave": named_in,
    "lift": named_in,
    "step": step_in,
    "frame": frame_in,
    "house": house_in,
    "put": put_in,
    "strike": two_named_in,
    "book": named_in,
    "sure": named_in,
    "maybe": named_in,
    "rows": two_named_in,
    "promise": named_in,
    "effect": script_in,
}


def words_text(words):
    """These words, or a stroke for none."""
    return " ".join(words) if words else "-"


def pairs_text(pairs):
    """These pairs (county, town), or a stroke for none."""
    return words_text([f"{county}/{town}" for county, town in pairs])


def numbers_text(pair):
    """Both numbers of this pair."""
    low, high = pair
    return f"{digits_of(low)} {digits_of(high)}"


def book_told(board, county):
    """The towns of a county."""
    return towns_text(board.towns_of(county))


def sure_told(board, name):
    """What a report shows whatever the sizes are."""
    return pairs_text(board.sure(name))


def maybe_told(board, name):
    """What a report shows for some sizes."""
    return pairs_text(board.maybe(name))


def rows_told(board, name, county):
    """How many rows of a county a report shows, at the least and at the most."""
    return numbers_text(board.rows_of(name, county))


def promise_told(board, name):
    """The least size and the least rows that a report can show."""
    return numbers_text(board.promise(name))


def idle_told(board):
    """The reports that can go."""
    return words_text(board.idle())


def effect_told(board, name, script):
    """How a report stands to a Script."""
    return board.effect(name, script)


def undo_told(board):
    """Whether there was a deed to take back."""
    return "yes" if board.undo() else "no"


# By the kind of a request that is no deed that can be refused: what tells the answer.
TELLERS = {
    "book": book_told,
    "sure": sure_told,
    "maybe": maybe_told,
    "rows": rows_told,
    "promise": promise_told,
    "idle": idle_told,
    "effect": effect_told,
    "undo": undo_told,
}


def answer(board, request):
    """The answer to this request."""
    kind, *rest = request
    if kind not in TELLERS:
        return deed_answer(board, request)
    tell = TELLERS[kind]
    try:
        return tell(board, *rest)
    except NoReport:
        return "refused NoReport"
    except NoName:
        return "refused NoName"


def deed_answer(board, deed):
    """The answer to a deed."""
    try:
        board.attempt((deed,))
    except Stopped as stopped:
        return f"refused {stopped.raised}"
    return "done"
