"""Where the rows of a text come to lie, and what they write there."""

from rowscribe.errors import BadRow
from rowscribe.naming import check_given, check_known, settled_first
from rowscribe.ops import first_word, row_size, short_take
from rowscribe.reading import read
from rowscribe.sums import worth_of

PLACES = 256
# Rows that write nothing: those with a name at most, too.
WORDLESS = ("", "is", "at")
BELOW_NOUGHT = ("word", "take", "take!")
SHORT_MOST = 7


class Page:
    """A text's rows in their places, what its names are worth, and where a next row would lie."""

    def __init__(self, rows, worths, end):
        self.rows = rows
        self.worths = worths
        self.end = end


def size_of(row):
    """How many words a row writes."""
    if row.op in WORDLESS:
        return 0
    if row.op == "room":
        return row.amount
    if row.op == "word":
        return len(row.sums)
    if row.op == "take" and row.long:
        return row_size("take!")
    return row_size(row.op)


def set_places(rows):
    """Sets all places by the takes that are long so far; tells where a next row would lie."""
    place = 0
    for row in rows:
        row.place = place
        place = row.amount if row.op == "at" else place + size_of(row)
    return place


def worths_at(rows, order):
    """What all names are worth by the places as they are."""
    worths = {row.label: row.place for row in rows if row.label}
    for row in order:
        worths[row.gives] = worth_of(row.sums[0], row.place, worths)
    return worths


def is_growing(row, worths):
    """Whether it is a short take whose sum doesn't fit."""
    if row.op != "take" or row.long:
        return False
    return not 0 <= worth_of(row.sums[0], row.place, worths) <= SHORT_MOST


def settle(rows, order):
    """The page of rows, once no short take has to be long."""
    while True:
        end = set_places(rows)
        worths = worths_at(rows, order)
        growing = [row for row in rows if is_growing(row, worths)]
        if not growing:
            return Page(rows, worths, end)
        for row in growing:
            row.long = True


def check_room(rows):
    """Refuses rows that have no room where they lie."""
    for row in rows:
        if row.op == "at" and not row.place <= row.amount <= PLACES:
            raise BadRow(row.row, "room")
        if size_of(row) < 0 or row.place + size_of(row) > PLACES:
            raise BadRow(row.row, "room")


def fitted(row, worth):
    """The word that a sum of a row writes."""
    least, most, number = 0, 255, worth
    if row.op in BELOW_NOUGHT:
        least = -128
    if row.op == "skip":
        least, most, number = -128, 127, worth - row.place - size_of(row)
    if not least <= number <= most:
        raise BadRow(row.row, "value")
    return number % 256


def words_of(row, worths):
    """The words that a row writes."""
    if row.op in WORDLESS:
        return ()
    if row.op == "room":
        return (0,) * row.amount
    numbers = [fitted(row, worth_of(parts, row.place, worths)) for parts in row.sums]
    if row.op == "word":
        return tuple(numbers)
    if row.op == "take" and not row.long:
        return (short_take(row.boxes[0], numbers[0]),)
    op = "take!" if row.op == "take" else row.op
    return (first_word(op, row.boxes), *numbers)


def page_of(text):
    """The page of a text, or why there is none, in the order of the document's list."""
    rows = read(text)
    check_known(rows, check_given(rows))
    page = settle(rows, settled_first(rows))
    check_room(rows)
    for row in rows:
        row.words = words_of(row, page.worths)
    return page
