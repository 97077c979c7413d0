"""Lines that garble words, and how a telegram is got across one all the same."""

from cablehouse.telegrams import is_sound


def exchanged(code, word, number):
    """The word that a fault of kind letter makes of a word."""
    alphabet = code.alphabet()
    m = len(alphabet)
    at = number % len(word)
    further = number // len(word) % (m - 1) + 1
    return word[:at] + alphabet[(alphabet.index(word[at]) + further) % m] + word[at + 1:]


def swapped(word, number):
    """The word that a fault of kind swap makes of a word."""
    at = number % (len(word) - 1)
    return word[:at] + word[at + 1] + word[at] + word[at + 2:]


def first_faults(faults):
    """A dict from each sending and place to the kind and number of the first fault there."""
    first = {}
    for sending, place, kind, number in faults:
        first.setdefault((sending, place), (kind, number))
    return first


def as_it_comes(code, word, fault):
    """The word that a fault makes of a word; without a fault (None) the same."""
    if fault is None:
        return word
    if fault[0] == "letter":
        return exchanged(code, word, fault[1])
    return swapped(word, fault[1])


def as_they_come(code, words, first, sending):
    """The words of a sending as they come by the first fault of each place."""
    return [as_it_comes(code, word, first.get((sending, place))) for place, word in enumerate(words)]


def garbled(code, words, faults, sending):
    """The words of a sending as they come over a line with these faults."""
    return as_they_come(code, words, first_faults(faults), sending)


def got_across(book, words, faults):
    """The words of a telegram in the end, and all sendings it took, as they came."""
    first = first_faults(faults)
    last = len(words) - 1
    kept = [""] * len(words)
    asked = list(range(len(words)))
    sendings = []
    while len(asked) > 0:
        came = as_they_come(book.code(), [words[at] for at in asked], first, len(sendings))
        sendings.append(came)
        left = []
        for at, word in zip(asked, came):
            if is_sound(book, word, at == last):
                kept[at] = word
            else:
                left.append(at)
        asked = left
    return (kept, sendings)
