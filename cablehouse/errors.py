"""The refusals of the cable house."""


class CableError(ValueError):
    """Any refusal."""


class NoCode(CableError):
    """What makes no code."""


class NoNumber(CableError):
    """What is no number of a good word, or one that is not free."""


class NoWord(CableError):
    """What is no word of the form that is asked for."""


class NoEntry(CableError):
    """What is no entry, or one that does not stand."""


class Twice(CableError):
    """An entry that stands already."""


class TooMany(CableError):
    """An entry for which a book has no room."""


class NoBook(CableError):
    """A text that is not written as a book is."""


class NoText(CableError):
    """What is no text to be sent."""


class NoReading(CableError):
    """Groups that say no text; `at` is the place where they stop to do so."""

    def __init__(self, at):
        CableError.__init__(self, f"the groups say no text: place {at}")
        self.at = at


class NoSetting(CableError):
    """A text that no groups say; `at` is how many of its words some do."""

    def __init__(self, at):
        CableError.__init__(self, f"no groups say more of the text than words: {at}")
        self.at = at


class TooGarbled(CableError):
    """Words with too many doubtful ones; `places` lists where these stand."""

    def __init__(self, places):
        CableError.__init__(self, "too many places are doubtful")
        # A list of its own: what the maker does to the one handed in must not show here.
        self.places = list(places)


class NoNet(CableError):
    """What makes no net, or a net that is not there."""


class NoOffice(CableError):
    """What is no office of a net."""


class NoDay(CableError):
    """What is no day, or one that is too early."""


class NoRow(CableError):
    """What is no row for the desk."""
