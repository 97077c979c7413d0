"""Texts, and what groups say by a book."""

from cablehouse.errors import NoReading
from cablehouse.writing import LONGEST_WORD, are_words

MOST_WORDS = 60


def is_text(thing):
    """Whether a thing, of any kind, is a text that can be sent."""
    return are_words(thing, MOST_WORDS)


def can_stand(entry, many, spelling):
    """Whether an entry can stand behind so many whole words and the letters of a word that is being spelled."""
    if entry[0] == "phrase":
        return spelling == "" and many + len(entry[1].split(" ")) <= MOST_WORDS
    if entry[0] == "part":
        return many < MOST_WORDS and len(spelling) + len(entry[1]) <= LONGEST_WORD
    return spelling != ""


def said(book, groups):
    """The text that groups say by a book."""
    words = []
    # A part has at least one letter, so no letters mean that no word is being spelled.
    spelling = ""
    for at, group in enumerate(groups):
        entry = book.entry(group)
        if entry is None or not can_stand(entry, len(words), spelling):
            raise NoReading(at)
        if entry[0] == "phrase":
            words.extend(entry[1].split(" "))
        elif entry[0] == "part":
            spelling = spelling + entry[1]
        else:
            words.append(spelling)
            spelling = ""
    if spelling != "" or len(words) == 0:
        raise NoReading(len(groups))
    return " ".join(words)
