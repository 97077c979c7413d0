"""Plain words and numbers as they are written, for all that reads or keeps them."""

from cablehouse.codes import SMALL_LETTERS

FIGURES = "0123456789"
MOST_FIGURES = 9
LONGEST_WORD = 20


def are_letters(thing, most):
    """Whether a thing is a text of one to so many small letters."""
    if not isinstance(thing, str) or not 1 <= len(thing) <= most:
        return False
    return all([sign in SMALL_LETTERS for sign in thing])


def are_words(thing, most):
    """Whether a thing is a text of one to so many words of one to twenty small letters, single blanks between."""
    if not isinstance(thing, str):
        return False
    words = thing.split(" ")
    return len(words) <= most and all([are_letters(word, LONGEST_WORD) for word in words])


def number_written(text):
    """The number that one to nine figures write, without a 0 ahead of others; None of any other text."""
    if not 1 <= len(text) <= MOST_FIGURES or not all([sign in FIGURES for sign in text]):
        return None
    if len(text) > 1 and text[0] == "0":
        return None
    return int(text)


def code_written(words):
    """The alphabet, weights and rest that the words of a code's row write, as a tuple; None of other words."""
    if len(words) != 4 or words[0] != "code":
        return None
    weights = [number_written(part) for part in words[2].split(",")]
    rest = number_written(words[3])
    if None in weights or rest is None:
        return None
    return (words[1], weights, rest)
