"""Faulty words: what a fault makes of a word, what it may have been, and what fits a torn one."""

from cablehouse.codes import is_word, places_of, spelled
from cablehouse.errors import NoWord

GAP = "?"
MOST_GAPS = 3


def by_exchange(m, places):
    """The places of all words that one letter exchanged for another one of m makes."""
    made = []
    for at, place in enumerate(places):
        for other in range(m):
            if other != place:
                made.append(places[:at] + [other] + places[at + 1:])
    return made


def by_swap(places):
    """The places of all words that two unlike neighbours make which change their places."""
    made = []
    for at in range(len(places) - 1):
        if places[at] != places[at + 1]:
            made.append(places[:at] + [places[at + 1], places[at]] + places[at + 2:])
    return made


def faulty(code, word):
    """All words a fault away from a word, in the order of their letters' places."""
    alphabet = code.alphabet()
    if not is_word(alphabet, len(code.weights()), word):
        raise NoWord("this is no word of the code")
    places = places_of(alphabet, word)
    # An exchange changes one letter and a swap just its two, so no word comes twice.
    return [spelled(alphabet, made) for made in sorted(by_exchange(len(alphabet), places) + by_swap(places))]


def nearest(code, word):
    """The good words a fault away from a word, in the order of their letters' places."""
    return [made for made in faulty(code, word) if code.has_good(made)]


def is_torn(code, thing):
    """Whether a thing is a text like a word of the code, with one to three gaps."""
    if not isinstance(thing, str) or not 1 <= thing.count(GAP) <= MOST_GAPS:
        return False
    return is_word(code.alphabet() + GAP, len(code.weights()), thing)


def with_each(lists, at, choices):
    """Of each list all that have one of the choices at a place, in the order of both."""
    made = []
    for numbers in lists:
        for choice in choices:
            made.append(numbers[:at] + [choice] + numbers[at + 1:])
    return made


def fitting(code, torn):
    """The good words that fit a torn word, in the order of their letters' places."""
    if not is_torn(code, torn):
        raise NoWord("this is no torn word of the code")
    alphabet = code.alphabet()
    m = len(alphabet)
    weights = code.weights()
    gaps = [at for at, sign in enumerate(torn) if sign == GAP]
    begun = [[0 if sign == GAP else alphabet.index(sign) for sign in torn]]
    for gap in gaps[:-1]:
        begun = with_each(begun, gap, list(range(m)))
    # No weight has a divisor in common with m, so whatever the other letters come to,
    # just one letter in the last gap makes the word good.
    last = gaps[-1]
    mending = {}
    for place in range(m):
        mending[weights[last] * place % m] = place
    words = []
    for places in begun:
        total = sum([weight * place for weight, place in zip(weights, places)])
        lacking = (code.rest() - total) % m
        words.append(spelled(alphabet, places[:last] + [mending[lacking]] + places[last + 1:]))
    return words
