"""Entries, and the books that keep them by numbers of a code's good words."""

from cablehouse.codes import is_below
from cablehouse.errors import NoEntry, NoNumber, TooMany, Twice
from cablehouse.writing import are_letters, are_words

MOST_ENTRIES = 300
MOST_PHRASE_WORDS = 6
MOST_PART_LETTERS = 6


def is_entry(thing):
    """Whether a thing, of any kind, is an entry: a phrase, a part or the end."""
    if not isinstance(thing, tuple) or len(thing) == 0 or not isinstance(thing[0], str):
        return False
    if len(thing) == 1:
        return thing[0] == "end"
    if len(thing) != 2:
        return False
    if thing[0] == "phrase":
        return are_words(thing[1], MOST_PHRASE_WORDS)
    return thing[0] == "part" and are_letters(thing[1], MOST_PART_LETTERS)


class Book:
    """The entries of a code by unlike numbers of its good words."""

    def __init__(self, code):
        self.basis = code
        self.by_number = {}
        self.by_entry = {}

    def code(self):
        """The code."""
        return self.basis

    def put(self, entry, number=None):
        """Put an entry in by a number, or by the least free one; the number is told."""
        given = self.choose(entry, number, lambda k: False)
        self.by_number[given] = entry
        self.by_entry[entry] = given
        return given

    def choose(self, entry, number, is_barred):
        """The number by which `put` would put an entry in, were those not free of which `is_barred` is true."""
        if not is_entry(entry):
            raise NoEntry("this is no entry")
        if entry in self.by_entry:
            raise Twice("this entry stands already")
        if number is not None:
            if not is_below(number, self.basis.many()):
                raise NoNumber("no good word has this number")
            if number in self.by_number or is_barred(number):
                raise NoNumber("this number is not free")
        if len(self.by_number) >= MOST_ENTRIES:
            raise TooMany("a book has at most 300 entries")
        return self.least_free(is_barred) if number is None else number

    def least_free(self, is_barred):
        """The least number that is neither taken nor barred."""
        k = 0
        while k in self.by_number or is_barred(k):
            k = k + 1
        if k >= self.basis.many():
            raise TooMany("no number is free")
        return k

    def strike(self, entry):
        """Strike an entry out; the number that is free again is told."""
        freed = self.number(entry)
        if freed is None:
            raise NoEntry("this is no entry that stands")
        self.by_entry.pop(entry)
        self.by_number.pop(freed)
        return freed

    def entry(self, number):
        """The entry of a number; None of anything that is no number of one."""
        # 1.0 and True are found in a dict like 1, and are no numbers of entries.
        if not is_below(number, self.basis.many()):
            return None
        return self.by_number.get(number)

    def number(self, entry):
        """The number of an entry; None of anything that is no entry that stands."""
        if not is_entry(entry):
            return None
        return self.by_entry.get(entry)

    def entries(self):
        """All tuples of a number and its entry, by rising numbers."""
        return [(number, self.by_number[number]) for number in sorted(self.by_number)]
