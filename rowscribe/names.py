"""How names and numbers of a text look."""

from rowscribe.ops import OPS

# Beside the ops, these have a meaning of their own in a row.
KEPT = ("take", "at", "word", "room", "is", "macro", "end", "here")
LETTERS = "abcdefghijklmnopqrstuvwxyz"
NAME_MOST = 8
FIGURES_MOST = 4


def is_letters(word, most):
    """Whether it is one to so many letters a to z."""
    return 1 <= len(word) <= most and all("a" <= letter <= "z" for letter in word)


def is_name(word):
    """Whether it is a name."""
    return is_letters(word, NAME_MOST) and word not in OPS and word not in KEPT


def is_own_name(word):
    """Whether it is a name of a call's own."""
    return word.startswith("@") and is_letters(word[1:], NAME_MOST - 1)


def is_figures(word):
    """Whether it is a number, without a needless 0."""
    if not 1 <= len(word) <= FIGURES_MOST:
        return False
    if word.startswith("0") and word != "0":
        return False
    # isdigit would let figures of other scripts by.
    return all("0" <= figure <= "9" for figure in word)


def letters_of(number):
    """a to z for 0 to 25, then aa, ab and so on."""
    word = ""
    rest = number
    while rest >= 0:
        word = LETTERS[rest % 26] + word
        rest = rest // 26 - 1
    return word


def fresh_names(many, taken):
    """So many names, none of those taken."""
    names = []
    number = 0
    while len(names) < many:
        word = letters_of(number)
        if is_name(word) and word not in taken:
            names.append(word)
        number += 1
    return names
