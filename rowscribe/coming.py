"""How rows of words are come to."""

from rowscribe.ops import row_at, row_size, signed

# From where a begin is led to.
BEGIN = -1
GOING = ("jump", "call", "zero", "same")
NOT_BEHIND = ("stop", "back", "jump", "skip")


class Walk:
    """The rows that are come to, by their places, and what is apart."""

    def __init__(self):
        self.rows = {}
        # The place of the row in which each word of such a row lies.
        self.homes = {}
        # (from, place), each once: the same pair may wait more than once.
        self.apart = {}


def goal_of(place, row):
    """Where a row at a place may lead but behind it, or None."""
    op, boxes, numbers = row
    if op == "skip":
        return place + row_size(op) + signed(numbers[0])
    return numbers[0] if op in GOING else None


def leads_of(place, row):
    """All places where a row at a place may lead."""
    goal = goal_of(place, row)
    leads = [] if goal is None else [goal]
    if row[0] not in NOT_BEHIND:
        leads.append(place + row_size(row[0]))
    return leads


def come(walk, words, place, origin):
    """Looks at a place that waits no more; tells where it may lead."""
    if place in walk.rows or not 0 <= place < len(words):
        return []
    row = row_at(words, place)
    # Where no row lies, the word itself may still lie within another row.
    places = list(range(place, place + (1 if row is None else row_size(row[0]))))
    if any(spot in walk.homes for spot in places):
        walk.apart[origin, place] = True
        return []
    if row is None:
        return []
    walk.rows[place] = row
    for spot in places:
        walk.homes[spot] = place
    return leads_of(place, row)


def walked(words, begins):
    """The walk of words from begins."""
    walk = Walk()
    waiting = [(begin, BEGIN) for begin in begins]
    while waiting:
        least = min(waiting)
        waiting.remove(least)
        place, origin = least
        leads = come(walk, words, place, origin)
        waiting.extend([(lead, place) for lead in leads])
    return walk
