"""What a machine does by words."""

from rowscribe.handed import check_begin, check_most, check_words
from rowscribe.ops import row_at, row_size, signed

CELLS = 256
CALLS_MOST = 16


class Machine:
    """What a run has come to."""

    def __init__(self, words, begin):
        # The rows stay as they were handed in; store and copy reach cells alone.
        self.words = list(words)
        self.cells = list(words) + [0] * (CELLS - len(words))
        self.boxes = [0, 0, 0, 0]
        self.calls = []
        self.says = []
        self.place = begin
        self.why = ""


def do_stop(machine, boxes, numbers):
    """Ends."""
    machine.why = "stop"


def do_back(machine, boxes, numbers):
    """Goes on behind the last call that isn't done yet."""
    if machine.calls:
        machine.place = machine.calls.pop()
    else:
        machine.why = "back"


def do_say(machine, boxes, numbers):
    """Says what a box holds."""
    machine.says.append(machine.boxes[boxes[0]])


def do_take(machine, boxes, numbers):
    """A box gets a number."""
    machine.boxes[boxes[0]] = numbers[0]


def do_move(machine, boxes, numbers):
    """A box gets what another holds."""
    machine.boxes[boxes[0]] = machine.boxes[boxes[1]]


def do_add(machine, boxes, numbers):
    """A box gets the sum of two."""
    machine.boxes[boxes[0]] = (machine.boxes[boxes[0]] + machine.boxes[boxes[1]]) % 256


def do_less(machine, boxes, numbers):
    """A box gets the difference of two."""
    machine.boxes[boxes[0]] = (machine.boxes[boxes[0]] - machine.boxes[boxes[1]]) % 256


def do_load(machine, boxes, numbers):
    """A box gets a cell."""
    machine.boxes[boxes[0]] = machine.cells[numbers[0]]


def do_store(machine, boxes, numbers):
    """A cell gets what a box holds."""
    machine.cells[numbers[0]] = machine.boxes[boxes[0]]


def do_jump(machine, boxes, numbers):
    """Goes on elsewhere."""
    machine.place = numbers[0]


def do_call(machine, boxes, numbers):
    """Goes on elsewhere, and keeps where the next row is."""
    if len(machine.calls) == CALLS_MOST:
        machine.why = "deep"
    else:
        machine.calls.append(machine.place)
        machine.place = numbers[0]


def do_skip(machine, boxes, numbers):
    """Goes on some places off the next row."""
    machine.place += signed(numbers[0])


def do_zero(machine, boxes, numbers):
    """Goes on elsewhere, if a box holds 0."""
    if machine.boxes[boxes[0]] == 0:
        machine.place = numbers[0]


def do_same(machine, boxes, numbers):
    """Goes on elsewhere, if two boxes hold the same."""
    if machine.boxes[boxes[0]] == machine.boxes[boxes[1]]:
        machine.place = numbers[0]


def do_copy(machine, boxes, numbers):
    """A cell gets what another holds."""
    machine.cells[numbers[1]] = machine.cells[numbers[0]]


ACTIONS = {
    "stop": do_stop,
    "back": do_back,
    "say": do_say,
    "take": do_take,
    "take!": do_take,
    "move": do_move,
    "add": do_add,
    "less": do_less,
    "load": do_load,
    "store": do_store,
    "jump": do_jump,
    "call": do_call,
    "skip": do_skip,
    "zero": do_zero,
    "same": do_same,
    "copy": do_copy,
}


def do_row(machine, row):
    """Does one row."""
    op, boxes, numbers = row
    # Rows that go on elsewhere count from the next row, or keep it.
    machine.place += row_size(op)
    action = ACTIONS[op]
    action(machine, boxes, numbers)


def run(words, begin, most):
    """(says, why, places) of at most so many rows from a place on."""
    check_words(words)
    check_begin(begin)
    check_most(most)
    machine = Machine(words, begin)
    places = []
    while machine.why == "" and len(places) < most:
        row = row_at(machine.words, machine.place)
        if row is not None:
            places.append(machine.place)
            do_row(machine, row)
        elif 0 <= machine.place < len(machine.words):
            machine.why = "none"
        else:
            machine.why = "end"
    return machine.says, machine.why, places
