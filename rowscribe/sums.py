"""Names, boxes and sums of a row, as they are put in."""

from rowscribe.errors import BadRow
from rowscribe.names import is_figures, is_name, is_own_name

BOXES = {"r0": 0, "r1": 1, "r2": 2, "r3": 3}
PARTS_MOST = 24


class Frame:
    """Where a row is put in: by which row of the text, and by what call."""

    def __init__(self, row, reach, own):
        self.row = row
        # It may call the macros that were begun as the first so many.
        self.reach = reach
        # What tells names of this call's own from those of others; "" outside of macros.
        self.own = own
        self.boxes = {}
        self.sums = {}


def name_of(word, frame):
    """The name that a word is."""
    if is_name(word):
        return word
    if frame.own and is_own_name(word):
        return word + frame.own
    raise BadRow(frame.row, "form")


def is_box(word, frame):
    """Whether a box stands there, or what was handed one."""
    return word in BOXES or word in frame.boxes


def box_of(word, frame):
    """The number of the box that a word is."""
    if not is_box(word, frame):
        raise BadRow(frame.row, "form")
    return frame.boxes[word] if word in frame.boxes else BOXES[word]


def split_sum(word):
    """(sign, part) of all parts of a sum as they are written."""
    parts = []
    sign = -1 if word.startswith("-") else 1
    part = ""
    for letter in word.removeprefix("-"):
        if letter in ("+", "-"):
            parts.append((sign, part))
            sign = -1 if letter == "-" else 1
            part = ""
        else:
            part += letter
    parts.append((sign, part))
    return parts


def part_of(part, frame):
    """The parts that come to stand where one is written."""
    if is_figures(part):
        return ((1, int(part)),)
    if part == "here":
        return ((1, "here"),)
    if part in frame.boxes:
        raise BadRow(frame.row, "form")
    if part in frame.sums:
        return frame.sums[part]
    return ((1, name_of(part, frame)),)


def sum_of(word, frame):
    """The sum that a word is: (sign, number or name) of all its parts."""
    parts = []
    for sign, written in split_sum(word):
        for inner, part in part_of(written, frame):
            parts.append((sign * inner, part))
    if len(parts) > PARTS_MOST:
        raise BadRow(frame.row, "long")
    return tuple(parts)


def worth_of(parts, here, worths):
    """What a sum comes to at a place."""
    total = 0
    for sign, part in parts:
        if part == "here":
            total += sign * here
        elif isinstance(part, str):
            total += sign * worths[part]
        else:
            total += sign * part
    return total
