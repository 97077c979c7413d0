"""The desk, which is told rows and answers them."""

from cablehouse.codes import Code
from cablehouse.editions import Editions
from cablehouse.errors import NoCode, NoDay, NoNet, NoRow
from cablehouse.faults import nearest
from cablehouse.nets import Net
from cablehouse.setting import set_groups
from cablehouse.telegrams import readings, telegram
from cablehouse.ways import check_office, way
from cablehouse.writing import code_written, number_written

OK = "ok"
NONE = "none"
NOTHING = "-"


def number_told(text):
    """The number that a text writes."""
    number = number_written(text)
    if number is None:
        raise NoRow("a number is written by one to nine figures, without a 0 ahead of others")
    return number


def cost_told(text):
    """The cost that a text writes, None where a line bears none."""
    return None if text == NOTHING else number_told(text)


def line_told(text):
    """The line that a text writes, be its offices some or not."""
    parts = text.split(":")
    if len(parts) != 3 or "-" not in parts[0]:
        raise NoRow("a line is written ONE-OTHER:PLAIN:CODE")
    ends = parts[0].partition("-")
    return (ends[0], ends[2], cost_told(parts[1]), cost_told(parts[2]))


def net_told(words):
    """The row of a net as a tuple."""
    with_book = [] if words[2] == NOTHING else words[2].split(",")
    return ("net", words[1].split(","), with_book, [line_told(word) for word in words[3:]])


def entry_told(words):
    """What words tell as an entry, be it one or not; None where they are of no entry's form."""
    if words == ["end"]:
        return ("end",)
    if len(words) == 2 and words[0] == "part":
        return ("part", words[1])
    if len(words) > 1 and words[0] == "phrase":
        return ("phrase", " ".join(words[1:]))
    return None


def change_told(words):
    """The row of an entry put in or dropped as a tuple; None where it is neither."""
    kind = "drop" if words[0] == "drop" else "put"
    entry = entry_told(words[1:] if kind == "drop" else words)
    return None if entry is None else (kind, entry)


def setup_told(words):
    """The row of a code, a day or a net as a tuple; None where it is none of them."""
    fields = code_written(words)
    if fields is not None:
        return ("code", fields)
    if words[0] == "day" and len(words) == 2:
        return ("day", number_told(words[1]))
    if words[0] == "net" and len(words) > 2:
        return net_told(words)
    return None


def wire_told(words):
    """The row of something sent, read, looked up or priced as a tuple; None where it is none of them."""
    kind = words[0]
    if kind == "send" and len(words) > 1:
        return (kind, " ".join(words[1:]))
    if kind == "read" and len(words) > 1:
        return (kind, words[1:])
    if kind == "near" and len(words) == 2:
        return (kind, words[1])
    if kind == "way" and len(words) > 3:
        return (kind, words[1], words[2], " ".join(words[3:]))
    return None


def row_told(row):
    """A row as a tuple, its kind first; refused where it is none."""
    if not isinstance(row, str):
        raise NoRow("a row is a text")
    words = row.split(" ")
    if "" in words:
        raise NoRow("a row is words parted by single blanks")
    for asked in (setup_told(words), change_told(words), wire_told(words)):
        if asked is not None:
            return asked
    raise NoRow("this is no row of the desk's")


def listed(texts, between):
    """Texts with something between, or `none` where there are none."""
    return NONE if len(texts) == 0 else between.join(texts)


class Desk:
    """A code, its editions, a net and a day, told row by row."""

    def __init__(self):
        self.basis = None
        self.editions = None
        self.net = None
        self.day = 0

    def say(self, row):
        """The answer to a row."""
        asked = row_told(row)
        kind = asked[0]
        if kind == "code":
            return self.begin_anew(asked[1])
        if self.basis is None:
            raise NoCode("a code is told ahead of all other rows")
        if kind == "day":
            return self.turn_to(asked[1])
        if kind == "net":
            return self.string_up(asked[1], asked[2], asked[3])
        if kind == "put":
            return self.basis.word(self.editions.put(self.day, asked[1]))
        if kind == "drop":
            return self.basis.word(self.editions.strike(self.day, asked[1]))
        if kind == "send":
            return " ".join(self.set_words(asked[1]))
        if kind == "read":
            return listed(readings(self.edition(), asked[1]), " / ")
        if kind == "near":
            return listed(nearest(self.basis, asked[1]), " ")
        return self.tell_way(asked[1], asked[2], asked[3])

    def begin_anew(self, fields):
        """Take a code, and begin with it on day 0 without a net."""
        self.basis = Code(fields[0], fields[1], fields[2])
        self.editions = Editions(self.basis)
        self.net = None
        self.day = 0
        return OK

    def turn_to(self, day):
        """Take a day no earlier than the last change's."""
        if day < self.editions.last_day():
            raise NoDay("the last change came later")
        self.day = day
        return OK

    def string_up(self, offices, with_book, lines):
        """Take a net."""
        self.net = Net(offices, with_book, lines)
        return OK

    def edition(self):
        """This day's edition."""
        return self.editions.book(self.day)

    def set_words(self, text):
        """The words of the telegram that says a text by this day's edition."""
        book = self.edition()
        return telegram(book, set_groups(book, text))

    def tell_way(self, first, last, text):
        """The offices of a cheapest way for a text, and its cost."""
        if self.net is None:
            raise NoNet("there is no net yet")
        check_office(self.net, first)
        check_office(self.net, last)
        many = len(self.set_words(text))
        found = way(self.net, first, last, len(text.split(" ")), many)
        if found is None:
            return NONE
        offices = []
        for office, form in found[0]:
            # A turn leaves the message at its office, which is told once.
            if offices[-1:] != [office]:
                offices.append(office)
        cost = found[1]
        told = " ".join(offices)
        return f"{told} : {cost}"
