"""Words told back: the rows that are come to, and a text that writes the words."""

from rowscribe.coming import goal_of, walked
from rowscribe.handed import check_begins, check_words
from rowscribe.names import fresh_names
from rowscribe.ops import row_size
from rowscribe.showing import box_texts, row_text

# As many as a word row may write.
WORD_ROW_MOST = 8


def checked_walk(words, begins):
    """The walk of what is handed in, if it is none to be refused."""
    check_words(words)
    check_begins(begins)
    return walked(words, begins)


def come_to(words, begins):
    """(place, op) of all rows that are come to."""
    rows = checked_walk(words, begins).rows
    return [(place, rows[place][0]) for place in sorted(rows)]


def middles(words, begins):
    """(from, place) of all that is apart, each once."""
    return sorted(checked_walk(words, begins).apart)


def names_of(walk, words, begins):
    """Names of the places at which goals and begins lie, or the rows around these."""
    goals = [goal_of(place, walk.rows[place]) for place in walk.rows]
    spots = [spot for spot in goals + begins if spot is not None and 0 <= spot < len(words)]
    homes = [walk.homes.get(spot, spot) for spot in spots]
    places = sorted(set(homes))
    return dict(zip(places, fresh_names(len(places), {})))


def goal_text(walk, names, goal):
    """A goal by a name, or a name and a number, or by its number where no word lies."""
    home = walk.homes.get(goal, goal)
    if home not in names:
        return str(goal)
    return names[home] if home == goal else f"{names[home]}+{goal - home}"


def row_words(walk, names, place):
    """The words of the row of a text for a row that is come to."""
    row = walk.rows[place]
    op, boxes, numbers = row
    goal = goal_of(place, row)
    sums = [str(number) for number in numbers] if goal is None else [goal_text(walk, names, goal)]
    return [op] + box_texts(boxes) + sums


def word_row_end(walk, names, place, end):
    """The place behind a word row that begins at a place."""
    behind = place + 1
    # A row that is come to, or a name, needs a row of its own.
    while behind < min(end, place + WORD_ROW_MOST) and behind not in walk.rows and behind not in names:
        behind += 1
    return behind


def told(words, begins):
    """A text that writes just these words."""
    walk = checked_walk(words, begins)
    names = names_of(walk, words, begins)
    rows = []
    place = 0
    while place < len(words):
        if place in walk.rows:
            behind = place + row_size(walk.rows[place][0])
            shown = row_words(walk, names, place)
        else:
            behind = word_row_end(walk, names, place, len(words))
            shown = ["word"] + [str(word) for word in words[place:behind]]
        rows.append(row_text(names.get(place, ""), shown))
        place = behind
    return "\n".join(rows)
