"""A text's rows as they are put in, with those of macros in the place of their calls."""

from rowscribe.errors import BadRow
from rowscribe.names import is_name
from rowscribe.ops import OPS
from rowscribe.sums import Frame, box_of, is_box, name_of, sum_of

ROWS_MOST = 400
MACROS_MOST = 60
PARAMS_MOST = 4
WORD_SUMS_MOST = 8
# How many boxes and sums stand behind the ops that the machine doesn't have so.
SHAPES = {"take": (1, 1), "at": (0, 1), "room": (0, 1)}


class Row:
    """A row as it is put in, and later what it comes to."""

    def __init__(self, row):
        self.row = row
        self.label = ""
        self.op = ""
        self.boxes = []
        self.sums = []
        # The name that an is row gives.
        self.gives = ""
        # What the sum of at or room comes to.
        self.amount = 0
        self.place = 0
        # Whether a take needs a further word.
        self.long = False
        self.words = ()


class Macro:
    """A macro: how many were begun ahead of it, and its rows."""

    def __init__(self, ahead, params):
        self.ahead = ahead
        self.params = params
        self.rows = []


class Reader:
    """What reading a text has come to."""

    def __init__(self):
        self.macros = {}
        self.begun = None
        self.head = 0
        self.calls = 0
        self.rows = []


def split_row(line):
    """The words of a row."""
    return [word for word in line.partition(";")[0].split(" ") if word]


def is_head(names):
    """Whether these may stand behind macro."""
    params = names[1:]
    if not names or len(params) > PARAMS_MOST or len(set(params)) < len(params):
        return False
    return all(is_name(name) for name in names)


def begin_macro(reader, number, names):
    """Reads a macro's head."""
    if reader.begun is not None or not is_head(names):
        raise BadRow(number, "macro")
    if names[0] in reader.macros or len(reader.macros) == MACROS_MOST:
        raise BadRow(number, "macro")
    reader.begun = Macro(len(reader.macros), names[1:])
    reader.macros[names[0]] = reader.begun
    reader.head = number


def end_macro(reader, number):
    """Reads a macro's end."""
    if reader.begun is None:
        raise BadRow(number, "macro")
    reader.begun = None


def hand(frame, param, word, outer):
    """Hands a call's frame what stands in the calling row."""
    if is_box(word, outer):
        frame.boxes[param] = box_of(word, outer)
    else:
        frame.sums[param] = sum_of(word, outer)


def called_rows(reader, frame, words):
    """(frame, words) of all rows that a calling row puts in."""
    macro = reader.macros[words[0]]
    if len(words) - 1 != len(macro.params) or macro.ahead >= frame.reach:
        raise BadRow(frame.row, "macro")
    reader.calls += 1
    inner = Frame(frame.row, macro.ahead, f"#{reader.calls}")
    for param, word in zip(macro.params, words[1:]):
        hand(inner, param, word, frame)
    return [(inner, row) for row in macro.rows]


def fill_shaped(row, frame, words):
    """Fills in a row of some boxes and then some sums."""
    if row.op in SHAPES:
        boxes, numbers = SHAPES[row.op]
    elif row.op in OPS:
        first, boxes, numbers = OPS[row.op]
    else:
        raise BadRow(frame.row, "form")
    if len(words) != boxes + numbers:
        raise BadRow(frame.row, "form")
    row.boxes = [box_of(word, frame) for word in words[:boxes]]
    row.sums = [sum_of(word, frame) for word in words[boxes:]]


def fill_row(row, frame, words):
    """Fills in what stands in a row behind its own name."""
    row.op = words[0]
    if row.op == "word":
        if not 1 <= len(words) - 1 <= WORD_SUMS_MOST:
            raise BadRow(frame.row, "form")
        row.sums = [sum_of(word, frame) for word in words[1:]]
    elif row.op == "is":
        if len(words) != 3:
            raise BadRow(frame.row, "form")
        row.gives = name_of(words[1], frame)
        row.sums = [sum_of(words[2], frame)]
    else:
        fill_shaped(row, frame, words[1:])


def put_row(reader, frame, words):
    """Puts one row in; tells the rows that come in its place."""
    if len(reader.rows) == ROWS_MOST:
        raise BadRow(frame.row, "long")
    row = Row(frame.row)
    # A calling row stays as one that bears its own name at most.
    reader.rows.append(row)
    rest = words
    if words[0].endswith(":"):
        row.label = name_of(words[0][:-1], frame)
        rest = words[1:]
    if not rest:
        return []
    if rest[0] in reader.macros:
        return called_rows(reader, frame, rest)
    fill_row(row, frame, rest)
    return []


def put_in(reader, number, words):
    """Puts a row of the text in, and all that it calls."""
    waiting = [(Frame(number, len(reader.macros), ""), words)]
    while waiting:
        frame, row = waiting.pop()
        waiting.extend(put_row(reader, frame, row)[::-1])


def read_row(reader, number, words):
    """Reads one row of the text."""
    if words[0] == "macro":
        begin_macro(reader, number, words[1:])
    elif words == ["end"]:
        end_macro(reader, number)
    elif reader.begun is not None:
        reader.begun.rows.append(words)
    else:
        put_in(reader, number, words)


def read(text):
    """All rows of a text as they are put in."""
    reader = Reader()
    for number, line in enumerate(text.split("\n")):
        words = split_row(line)
        if words:
            read_row(reader, number, words)
    if reader.begun is not None:
        raise BadRow(reader.head, "macro")
    return reader.rows
