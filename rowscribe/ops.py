"""The rows of the machine and their words."""

# Each op's first word, how many boxes it names and how many numbers follow.
OPS = {
    "stop": (0, 0, 0),
    "back": (1, 0, 0),
    "say": (4, 1, 0),
    "take!": (16, 1, 1),
    "move": (32, 2, 0),
    "add": (48, 2, 0),
    "less": (64, 2, 0),
    "load": (80, 1, 1),
    "store": (84, 1, 1),
    "jump": (96, 0, 1),
    "call": (97, 0, 1),
    "skip": (99, 0, 1),
    "zero": (100, 1, 1),
    "same": (112, 2, 1),
    "copy": (128, 0, 2),
}
# How many first words an op has, by how many boxes it names.
SPANS = (1, 4, 16)

# The short take alone has its number in its first word.
TAKE_FIRST = 144
TAKE_SPAN = 32
TAKE_NUMBERS = 8


def first_word(op, boxes):
    """The first word of a row of OPS."""
    word = 0
    for box in boxes:
        word = 4 * word + box
    return OPS[op][0] + word


def short_take(box, number):
    """The one word of a short take."""
    return TAKE_FIRST + TAKE_NUMBERS * box + number


def row_size(op):
    """How many words a row has, "take" being the short one."""
    return 1 if op == "take" else 1 + OPS[op][2]


def signed(word):
    """A skip's number as it counts: from 128 on 256 less."""
    return word if word < 128 else word - 256


def op_of(word):
    """The op of a first word, or None."""
    if TAKE_FIRST <= word < TAKE_FIRST + TAKE_SPAN:
        return "take"
    for op in OPS:
        first, boxes, numbers = OPS[op]
        if first <= word < first + SPANS[boxes]:
            return op
    return None


def boxes_of(op, word):
    """The boxes that a first word of OPS names."""
    first, many, numbers = OPS[op]
    if many == 2:
        return [(word - first) // 4, (word - first) % 4]
    return [word - first] * many


def row_at(words, place):
    """(op, boxes, numbers) of the row that lies at a place, or None."""
    if not 0 <= place < len(words):
        return None
    word = words[place]
    op = op_of(word)
    if op is None or place + row_size(op) > len(words):
        return None
    if op == "take":
        return op, [(word - TAKE_FIRST) // TAKE_NUMBERS], [(word - TAKE_FIRST) % TAKE_NUMBERS]
    return op, boxes_of(op, word), words[place + 1:place + row_size(op)]
