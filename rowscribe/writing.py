"""What a text writes, and what its names are worth."""

from rowscribe.placing import page_of


def written(text):
    """The words of a text."""
    page = page_of(text)
    words = [0] * page.end
    for row in page.rows:
        words[row.place:row.place + len(row.words)] = list(row.words)
    return words


def listed(text):
    """(row's number, place, words) of all rows that write words."""
    return [(row.row, row.place, row.words) for row in page_of(text).rows if row.words]


def names_told(text):
    """(name, worth) of all names but those of a call's own."""
    worths = page_of(text).worths
    return [(name, worths[name]) for name in sorted(worths) if not name.startswith("@")]
