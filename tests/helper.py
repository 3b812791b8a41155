"""What several files of tests use."""

from rowscribe.errors import BadRow
from rowscribe.writing import listed, names_told, written


def text(*rows):
    """A text of these rows."""
    return "\n".join(rows)


def refused(*rows):
    """(row, why) by which a text is refused, or None; the same by all that reads texts."""
    found = []
    for told in (written, listed, names_told):
        try:
            told(text(*rows))
            found.append(None)
        except BadRow as bad:
            found.append((bad.row, bad.why))
    assert found[0] == found[1] == found[2], found
    return found[0]
