"""Texts set in as few groups of a book as can be."""

from cablehouse.books import MOST_PART_LETTERS, MOST_PHRASE_WORDS
from cablehouse.errors import NoSetting, NoText
from cablehouse.saying import is_text


def fewest(many, longest, step):
    """For each number from 0 to `many` the fewest groups that come so far, or None where none do.

    `step(begin, behind)` tells the groups, or None, that lead from one number to another one,
    at most `longest` further.
    """
    best = [[]]
    for behind in range(1, many + 1):
        found = None
        for begin in range(max(0, behind - longest), behind):
            added = None if best[begin] is None else step(begin, behind)
            if added is not None and (found is None or len(best[begin]) + len(added) < len(found)):
                found = best[begin] + added
        best.append(found)
    return best


def lone_group(book, entry):
    """The one group that says an entry, as a list, or None where it does not stand."""
    number = book.number(entry)
    return None if number is None else [number]


def spelling_of(book, word):
    """The fewest groups that spell a word and close it, or None where none do."""
    close = lone_group(book, ("end",))
    if close is None:
        return None
    parts = fewest(
        len(word), MOST_PART_LETTERS, lambda begin, behind: lone_group(book, ("part", word[begin:behind]))
    )[-1]
    return None if parts is None else parts + close


def step_over(book, words):
    """The fewest groups that say these words by one phrase or one spelling, or None where none do."""
    phrase = lone_group(book, ("phrase", " ".join(words)))
    # A spelling has two groups at least, so a phrase is never worse.
    if phrase is None and len(words) == 1:
        return spelling_of(book, words[0])
    return phrase


def settings_of(book, text):
    """For each number of words from 0 to all the fewest groups that say so many of a text, or None."""
    if not is_text(text):
        raise NoText("a text is one to sixty words of one to twenty small letters, single blanks between")
    words = text.split(" ")
    return fewest(len(words), MOST_PHRASE_WORDS, lambda begin, behind: step_over(book, words[begin:behind]))


def least_groups(book, text):
    """For each number of words from 0 to all how many groups at least say so many of a text, or None."""
    return [None if groups is None else len(groups) for groups in settings_of(book, text)]


def set_groups(book, text):
    """As few groups as can be that say a text."""
    settings = settings_of(book, text)
    if settings[-1] is None:
        raise NoSetting(max([many for many, groups in enumerate(settings) if groups is not None]))
    return settings[-1]
