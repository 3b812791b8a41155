"""What several files of tests use."""

import random

from rowscribe.alike import parts, plain
from rowscribe.errors import BadRow, ScribeError
from rowscribe.follow import counted, followed, said_by, until, used
from rowscribe.writing import listed, names_told, written

# All that reads a text, each by what refuses a text just so.
READERS = {
    "written": written,
    "listed": listed,
    "names_told": names_told,
    "plain": plain,
    "parts, one": lambda text: parts(text, ""),
    "parts, other": lambda text: parts("", text),
    "followed": lambda text: followed(text, 0, 0),
    "until": lambda text: until(text, 0, 0, 0),
    "counted": lambda text: counted(text, 0, 0),
    "said_by": lambda text: said_by(text, [], 0),
    "used": used,
}


def text(*rows):
    """A text of these rows."""
    return "\n".join(rows)


def refused(*rows):
    """(row, why) by which a text is refused, or None; the same by all that reads texts."""
    found = {}
    for name, reader in READERS.items():
        try:
            reader(text(*rows))
            found[name] = None
        except BadRow as bad:
            assert isinstance(bad, ScribeError) and isinstance(bad, ValueError)
            found[name] = (bad.row, bad.why)
    assert len(set(found.values())) == 1, found
    return found["written"]


def rows_by_first_word():
    """{first word: (op, how many words)}, written anew from the document's table."""
    rows = {0: ("stop", 1), 1: ("back", 1), 96: ("jump", 2), 97: ("call", 2), 99: ("skip", 2), 128: ("copy", 3)}
    for p in range(4):
        rows[4 + p] = ("say", 1)
        rows[16 + p] = ("take!", 2)
        rows[80 + p] = ("load", 2)
        rows[84 + p] = ("store", 2)
        rows[100 + p] = ("zero", 2)
        for n in range(8):
            rows[144 + 8 * p + n] = ("take", 1)
        for q in range(4):
            rows[32 + 4 * p + q] = ("move", 1)
            rows[48 + 4 * p + q] = ("add", 1)
            rows[64 + 4 * p + q] = ("less", 1)
            rows[112 + 4 * p + q] = ("same", 2)
    return rows


ROWS = rows_by_first_word()


def row_lies(words, place):
    """(op, how many words) of the row at a place, or None."""
    if not 0 <= place < len(words) or words[place] not in ROWS:
        return None
    op, size = ROWS[words[place]]
    return (op, size) if place + size <= len(words) else None


def goal_at(words, place):
    """The goal of the row that lies at a place, or None."""
    op, size = row_lies(words, place)
    if op in ("jump", "call", "zero", "same"):
        return words[place + 1]
    if op == "skip":
        number = words[place + 1]
        return place + 2 + (number if number < 128 else number - 256)
    return None


def drawn_words(draw):
    """Words, most of them rows whose goals are mostly among the words."""
    firsts = sorted(ROWS)
    many = draw.choice([0, 1, 2, 5, 12, 30, 60, 256])
    words = []
    while len(words) < many:
        first = draw.choice(firsts) if draw.random() < 0.9 else draw.randrange(256)
        words.append(first)
        for number in range(ROWS.get(first, ("", 1))[1] - 1):
            near = draw.choice([draw.randrange(max(1, many)), draw.randrange(8), draw.randrange(248, 256)])
            words.append(near if draw.random() < 0.9 else draw.randrange(256))
    return words[:many]


def drawn_begins(draw, words):
    """Begins, most of them where a word lies."""
    begins = []
    for number in range(draw.choice([0, 1, 1, 2, 3, 16])):
        begins.append(draw.randrange(min(256, len(words) + 3)) if draw.random() < 0.9 else draw.randrange(256))
    return begins


class DrawnText:
    """A text with names, sums and macros; most such texts are taken."""

    def __init__(self, seed):
        self.draw = random.Random(seed)
        self.constants = ["ka", "kb"]
        self.labels = ["a", "b", "la", "lb", "lc"]
        self.macros = []

    def some_sum(self, names):
        draw = self.draw
        name = draw.choice(names + ["here"])
        return draw.choice([
            str(draw.randrange(12)), str(draw.randrange(200)), name, name, name + "+1", f"{name}+{draw.randrange(9)}",
            f"9-{draw.choice(self.constants)}", f"{name}+{draw.choice(names)}-{draw.randrange(3)}",
        ])

    def some_row(self, boxes, names):
        draw = self.draw
        p, q = draw.choice(boxes), draw.choice(boxes)
        s, t = self.some_sum(names), self.some_sum(names)
        return draw.choice([
            "stop", "back", f"say {p}", f"say {q}", f"take {p} {s}", f"take {p} {s}", f"take! {p} {s}",
            f"move {p} {q}", f"add {p} {q}", f"less {p} {q}", f"load {p} {s}", f"store {p} {s}", f"jump {s}",
            f"call {s}", f"skip {s}", f"zero {p} {s}", f"same {p} {q} {s}", f"copy {s} {t}", f"word {s} {t}", "room 2",
        ])

    def some_call(self, boxes, names):
        name, kinds = self.draw.choice(self.macros)
        handed = [self.draw.choice(boxes) if kind == "box" else self.some_sum(names) for kind in kinds]
        return " ".join([name] + handed)

    def some_rows(self, many, boxes, names):
        rows = []
        for number in range(many):
            calls = self.macros and self.draw.random() < 0.4
            rows.append(self.some_call(boxes, names) if calls else self.some_row(boxes, names))
        return rows

    def some_macro(self, number):
        draw = self.draw
        kinds = [draw.choice(["box", "sum"]) for each in range(draw.randrange(5))]
        params = ["a", "p", "q", "lb"][:len(kinds)]
        boxes = ["r1"] + [param for param, kind in zip(params, kinds) if kind == "box"]
        free = [name for name in self.labels if name not in params]
        sums = free + ["@a", "@b"] + [param for param, kind in zip(params, kinds) if kind == "sum"] * 2
        rows = self.some_rows(draw.randrange(1, 4), boxes, sums)
        rows[0] = "@a: " + rows[0]
        name = f"m{'abcdef'[number]}"
        self.macros.append((name, kinds))
        return [" ".join(["macro", name] + params)] + rows + [f"is @b @a+{draw.randrange(3)}", "end"]

    def told(self):
        draw = self.draw
        rows = ["; drawn", "is ka 3", "is kb ka+2"]
        for number in range(draw.randrange(4)):
            rows += self.some_macro(number)
        boxes = ["r0", "r1", "r2", "r3"]
        for label in self.labels:
            body = self.some_rows(draw.randrange(1, 4), boxes, self.labels + self.constants)
            rows += [f"{label}: {body[0]}"] + body[1:]
        if draw.random() < 0.3:
            rows += ["at 90+kb", "stop"]
        return text(*rows)


def drawn_texts(many):
    """So many texts that are taken."""
    found = []
    seed = 0
    while len(found) < many:
        one = DrawnText(seed).told()
        seed += 1
        try:
            written(one)
            found.append(one)
        except BadRow:
            assert seed < 50 * many + 50, "too few drawn texts are taken"
    return found
