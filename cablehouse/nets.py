"""Nets: offices, those of them that have the book, and the lines between them."""

from cablehouse.codes import is_below
from cablehouse.errors import NoNet
from cablehouse.writing import are_letters

MOST_OFFICES = 12
LONGEST_NAME = 8
MOST_LINES = 60
MOST_COST = 1000000000


def are_unlike_names(thing):
    """Whether a thing, of any kind, is a list of unlike names."""
    if not isinstance(thing, list) or not all([are_letters(name, LONGEST_NAME) for name in thing]):
        return False
    return len(set(thing)) == len(thing)


def is_cost(thing):
    """Whether a thing, of any kind, is what a word may cost on a line, None where it bears none."""
    return thing is None or is_below(thing, MOST_COST + 1)


def is_line(thing, offices):
    """Whether a thing, of any kind, is a line between two unlike offices."""
    if not isinstance(thing, tuple) or len(thing) != 4:
        return False
    if not are_unlike_names([thing[0], thing[1]]):
        return False
    return thing[0] in offices and thing[1] in offices and is_cost(thing[2]) and is_cost(thing[3])


class Net:
    """Offices, some with the book, and the lines between them."""

    def __init__(self, offices, with_book, lines):
        if not are_unlike_names(offices) or not 1 <= len(offices) <= MOST_OFFICES:
            raise NoNet("offices are a list of 1 to 12 unlike names of 1 to 8 small letters")
        if not are_unlike_names(with_book) or not all([name in offices for name in with_book]):
            raise NoNet("the offices with the book are a list of unlike offices")
        if not isinstance(lines, list) or len(lines) > MOST_LINES:
            raise NoNet("lines are a list of at most 60")
        if not all([is_line(line, offices) for line in lines]):
            raise NoNet("a line is a tuple of two unlike offices and two costs")
        self.names = list(offices)
        self.holders = list(with_book)
        self.wires = list(lines)

    def offices(self):
        """The names of all offices, as made."""
        return list(self.names)

    def with_book(self):
        """The names of the offices that have the book, as made."""
        return list(self.holders)

    def lines(self):
        """The lines, as made."""
        return list(self.wires)
