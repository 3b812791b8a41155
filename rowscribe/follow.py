"""What a machine does by what a text writes, told by the text's rows; and where names are used."""

from rowscribe.handed import check_begins, check_most
from rowscribe.machine import run
from rowscribe.naming import names_in
from rowscribe.placing import page_of
from rowscribe.writing import listed, names_told, written


def followed(text, begin, most):
    """(says, why, rows) of at most so many rows from a place on, None for a place in the middle."""
    says, why, places = run(written(text), begin, most)
    rows = {place: row for row, place, words in listed(text)}
    return says, why, [rows.get(place) for place in places]


def until(text, begin, row, most):
    """How many rows are done ahead of the first of a row of the text, or None."""
    rows = followed(text, begin, most)[2]
    return rows.index(row) if row in rows else None


def counted(text, begin, most):
    """(row, how often) of all rows of the text that were done."""
    rows = [row for row in followed(text, begin, most)[2] if row is not None]
    return [(row, rows.count(row)) for row in sorted(set(rows))]


def said_by(text, begins, most):
    """What is said from each of some begins."""
    words = written(text)
    check_begins(begins)
    # Where there are no begins, no run would refuse it.
    check_most(most)
    return [run(words, begin, most)[0] for begin in begins]


def names_of_row(row):
    """All names that stand in a row's sums, some more than once."""
    return [name for parts in row.sums for name in names_in(parts)]


def used(text):
    """(name, rows) of all names but those of a call's own: the rows in whose sums it stands."""
    users = {name: [] for name, worth in names_told(text)}
    # Rows are put in by the rising numbers of the text's rows.
    for row in page_of(text).rows:
        for name in names_of_row(row):
            if name in users and row.row not in users[name]:
                users[name].append(row.row)
    return [(name, users[name]) for name in users]
