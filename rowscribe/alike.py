"""Texts that write the same, and where two texts part."""

from rowscribe.names import fresh_names
from rowscribe.placing import page_of
from rowscribe.showing import box_texts, row_text, sum_text
from rowscribe.writing import written


def word_at(words, place):
    """The word at a place, None for none there."""
    return words[place] if place < len(words) else None


def parts(one, other):
    """(place, word, word) of the first word by which two texts part, or None."""
    words = written(one)
    others = written(other)
    for place in range(max(len(words), len(others))):
        if word_at(words, place) != word_at(others, place):
            return place, word_at(words, place), word_at(others, place)
    return None


def names_instead(worths):
    """A name for each name of a call's own, unlike all names of the text."""
    own = [name for name in worths if name.startswith("@")]
    return dict(zip(own, fresh_names(len(own), worths)))


def plain_sum(addends, instead):
    """A sum without names of a call's own."""
    return sum_text([(sign, instead.get(part, part)) for sign, part in addends])


def plain_row(row, instead):
    """A row as it was put in, without names of a call's own."""
    words = [row.op] if row.op else []
    if row.gives:
        words.append(instead.get(row.gives, row.gives))
    words.extend(box_texts(row.boxes))
    words.extend([plain_sum(addends, instead) for addends in row.sums])
    return row_text(instead.get(row.label, row.label), words)


def plain(text):
    """A text without macros that writes the same words."""
    page = page_of(text)
    instead = names_instead(page.worths)
    # Of a calling row only its own name is left, often none.
    return "\n".join([plain_row(row, instead) for row in page.rows if row.label or row.op])
