"""Editions of a book, day by day, so made that a late telegram is never read by a wrong entry."""

from cablehouse.books import Book
from cablehouse.codes import is_below
from cablehouse.errors import NoDay

LATEST_DAY = 1000000000
DAYS_BARRED = 31


def is_day(thing):
    """Whether a thing, of any kind, is a day."""
    return is_below(thing, LATEST_DAY + 1)


class Editions:
    """The editions of a code's book: what stood on each day, and what may be changed from now on."""

    def __init__(self, code):
        self.current = Book(code)
        self.changes = []
        self.struck = {}
        self.latest = 0

    def put(self, day, entry, number=None):
        """Put an entry in on a day, by a number or by the least free one; the number is told."""
        self.check_change(day)
        given = self.current.choose(entry, number, lambda k: self.is_barred(day, entry, k))
        self.current.put(entry, given)
        self.note_change(day, given, entry)
        return given

    def strike(self, day, entry):
        """Strike an entry out on a day; its number is told."""
        self.check_change(day)
        freed = self.current.strike(entry)
        self.struck[freed] = (day, entry)
        self.note_change(day, freed, None)
        return freed

    def book(self, day):
        """The edition of a day, as a new book."""
        if not is_day(day):
            raise NoDay("this is no day")
        standing = {}
        for changed, number, entry in self.changes:
            if changed <= day:
                standing[number] = entry
        edition = Book(self.current.code())
        for number, entry in standing.items():
            if entry is not None:
                edition.put(entry, number)
        return edition

    def last_day(self):
        """The day of the last change, 0 ahead of any."""
        return self.latest

    def check_change(self, day):
        """Refuse a day on which nothing can be changed."""
        if not is_day(day) or day < self.latest:
            raise NoDay("this is no day from the last change's on")

    def is_barred(self, day, entry, number):
        """Whether a number was struck out too lately to be free for an entry."""
        # The last strike alone counts: within its days no other entry can have come by this number.
        lately = self.struck.get(number)
        return lately is not None and lately[1] != entry and day - lately[0] < DAYS_BARRED

    def note_change(self, day, number, entry):
        """Keep what stands by a number from a day on, None where nothing does."""
        self.changes.append((day, number, entry))
        self.latest = day
