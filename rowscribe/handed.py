"""What is handed in, and refused if it is none."""

from rowscribe.errors import BadBegins, BadCount, BadWords

WORDS_MOST = 256
WORD_MOST = 255
BEGINS_MOST = 16
ROWS_DONE_MOST = 1000


def is_whole(number, most):
    """Whether it is a whole number from 0 to most."""
    # Python counts True and False among the integers, the document doesn't.
    return isinstance(number, int) and not isinstance(number, bool) and 0 <= number <= most


def check_words(words):
    """Refuses what is no list of words."""
    for number, word in enumerate(words):
        if number >= WORDS_MOST or not is_whole(word, WORD_MOST):
            raise BadWords(number)


def check_begin(begin):
    """Refuses what is no place to begin at."""
    if not is_whole(begin, WORD_MOST):
        raise BadBegins(0)


def check_begins(begins):
    """Refuses what is no list of places to begin at."""
    for number, begin in enumerate(begins):
        if number >= BEGINS_MOST or not is_whole(begin, WORD_MOST):
            raise BadBegins(number)


def check_most(most):
    """Refuses what is no count of rows to do."""
    if not is_whole(most, ROWS_DONE_MOST):
        raise BadCount("rows to do are 0 to 1000")
