"""Good words, the pairs of them that a fault confuses, and codes, which number them."""

from cablehouse.errors import NoCode, NoNumber, NoWord
from cablehouse.weights import are_safe, common_divisor, is_whole

SMALL_LETTERS = "abcdefghijklmnopqrstuvwxyz"


def is_alphabet(thing):
    """Whether a thing is a text of 3 to 26 unlike small letters."""
    if not isinstance(thing, str) or not 3 <= len(thing) <= 26:
        return False
    return len(set(thing)) == len(thing) and all([sign in SMALL_LETTERS for sign in thing])


def is_below(thing, bound):
    """Whether a thing is a whole number from 0 on and below a bound."""
    return is_whole(thing) and 0 <= thing < bound


def are_weights(thing, m):
    """Whether a thing is a list of 3 to 8 whole numbers from 0 to m - 1."""
    if not isinstance(thing, list) or not 3 <= len(thing) <= 8:
        return False
    return all([is_below(weight, m) for weight in thing])


def is_word(alphabet, length, thing):
    """Whether a thing is a text of so many letters of the alphabet."""
    if not isinstance(thing, str) or len(thing) != length:
        return False
    return all([sign in alphabet for sign in thing])


def places_of(alphabet, word):
    """The places in the alphabet of a word's letters."""
    return [alphabet.index(letter) for letter in word]


def spelled(alphabet, places):
    """The word whose letters have these places in the alphabet."""
    return "".join([alphabet[place] for place in places])


def are_good(m, weights, rest, places):
    """Whether letters of these places make a good word."""
    total = sum([weight * place for weight, place in zip(weights, places)])
    return (total - rest) % m == 0


def is_good(alphabet, weights, rest, word):
    """Whether a word is good for the rest; what is no word is not."""
    if not is_word(alphabet, len(weights), word):
        return False
    return are_good(len(alphabet), weights, rest, places_of(alphabet, word))


def good_places(m, weights, rest, fixed):
    """The places of some good word that has those of the dict `fixed` where it says; None where there is none."""
    # Of all beginnings that leave the same by m one is enough, so there are never more than m.
    beginnings = {0: []}
    for at, weight in enumerate(weights):
        choices = [fixed[at]] if at in fixed else list(range(m))
        longer = {}
        for total, places in beginnings.items():
            for place in choices:
                longer.setdefault((total + weight * place) % m, places + [place])
        beginnings = longer
    return beginnings.get(rest % m)


def pair_by_exchange(m, weights, places):
    """The places of a good word and of another one, a letter exchanged; None where no exchange leaves it good."""
    for at, weight in enumerate(weights):
        divisor = common_divisor(weight, m)
        if divisor > 1:
            other = list(places)
            other[at] = (places[at] + m // divisor) % m
            return (places, other)
    return None


def pair_by_swap(m, weights, rest):
    """The places of two good words, unlike neighbours exchanged between them; None where there are none."""
    for at in range(len(weights) - 1):
        # A swap keeps the sum by m just where the two places differ by a multiple of this step.
        step = m // common_divisor(weights[at] - weights[at + 1], m)
        for low in range(m):
            for high in range(low + step, m, step):
                places = good_places(m, weights, rest, {at: low, at + 1: high})
                if places is not None:
                    return (places, places[:at] + [high, low] + places[at + 2:])
    return None


def unsafe_pair(alphabet, weights, rest):
    """Two good words, one a fault away from the other, or None where there are no such two."""
    m = len(alphabet)
    places = good_places(m, weights, rest, {})
    if places is None:
        return None
    pair = pair_by_exchange(m, weights, places)
    if pair is None:
        pair = pair_by_swap(m, weights, rest)
    if pair is None:
        return None
    return (spelled(alphabet, pair[0]), spelled(alphabet, pair[1]))


class Code:
    """The good words of an alphabet, safe weights and a rest, numbered from 0 on."""

    # The weights are safe, so the last one has no divisor in common with m: whatever letters stand
    # ahead, just one last letter makes the word good. The letters ahead, read as figures by m, are
    # therefore the word's number.

    def __init__(self, alphabet, weights, rest):
        if not is_alphabet(alphabet):
            raise NoCode("an alphabet is a text of 3 to 26 unlike small letters")
        m = len(alphabet)
        if not are_weights(weights, m):
            raise NoCode("weights are a list of 3 to 8 whole numbers, each below the number of letters")
        if not is_below(rest, m):
            raise NoCode("a rest is a whole number below the number of letters")
        if not are_safe(weights, m):
            raise NoCode("the weights are not safe")
        self.letters = alphabet
        self.factors = list(weights)
        self.remainder = rest

    def alphabet(self):
        """The alphabet."""
        return self.letters

    def weights(self):
        """The weights, as a new list."""
        return list(self.factors)

    def rest(self):
        """The rest."""
        return self.remainder

    def many(self):
        """How many good words there are."""
        product = 1
        for weight in self.factors[1:]:
            product = product * len(self.letters)
        return product

    def word(self, k):
        """The good word of a number."""
        if not is_below(k, self.many()):
            raise NoNumber("no good word has this number")
        m = len(self.letters)
        left = k
        ahead = []
        for weight in self.factors[1:]:
            ahead.insert(0, left % m)
            left = left // m
        lasts = [last for last in range(m) if are_good(m, self.factors, self.remainder, ahead + [last])]
        return spelled(self.letters, ahead + lasts)

    def number(self, word):
        """The number of a good word."""
        if not self.has_good(word):
            raise NoWord("this is no good word of the code")
        k = 0
        for place in places_of(self.letters, word[:-1]):
            k = k * len(self.letters) + place
        return k

    def has_good(self, thing):
        """Whether a thing, of any kind, is a good word of the code."""
        return is_good(self.letters, self.factors, self.remainder, thing)
