"""Telegrams: groups as good words with a check, and what those that came may read."""

from cablehouse.codes import is_word
from cablehouse.errors import NoReading, NoWord, TooGarbled
from cablehouse.faults import nearest, with_each
from cablehouse.saying import said

FEWEST_CAME = 2
MOST_CAME = 1400
MOST_DOUBTFUL = 2


def check_number(code, groups):
    """The number of the check of groups."""
    return (sum(groups) + len(groups)) % code.many()


def check_of(code, groups):
    """The check of groups, a good word."""
    return code.word(check_number(code, groups))


def telegram(book, groups):
    """The words of a telegram of groups, the check behind them; refused where the groups say no text."""
    said(book, groups)
    code = book.code()
    return [code.word(group) for group in groups] + [check_of(code, groups)]


def is_sound(book, word, is_check):
    """Whether a word is good and, unless it is the check, in the book."""
    code = book.code()
    if not code.has_good(word):
        return False
    return is_check or book.entry(code.number(word)) is not None


def are_words_of(code, thing):
    """Whether a thing, of any kind, is a list of 2 to 1400 words of the code."""
    if not isinstance(thing, list) or not FEWEST_CAME <= len(thing) <= MOST_CAME:
        return False
    length = len(code.weights())
    return all([is_word(code.alphabet(), length, word) for word in thing])


def doubtful(book, words):
    """The places of words that came which are doubtful."""
    if not are_words_of(book.code(), words):
        raise NoWord("these are no list of 2 to 1400 words of the code")
    last = len(words) - 1
    return [at for at, word in enumerate(words) if not is_sound(book, word, at == last)]


def may_stand(book, word, is_check):
    """The numbers of the words that may stand in the place of a doubtful one."""
    code = book.code()
    return [code.number(made) for made in nearest(code, word) if is_sound(book, made, is_check)]


def text_of(book, numbers):
    """The text that numbers of good words read, the last one as the check; None where they read none."""
    groups = numbers[:-1]
    if numbers[-1] != check_number(book.code(), groups):
        return None
    try:
        return said(book, groups)
    except NoReading:
        return None


def readings(book, words):
    """The texts that words that came may read, sorted, each once."""
    places = doubtful(book, words)
    if len(places) > MOST_DOUBTFUL:
        raise TooGarbled(places)
    code = book.code()
    last = len(words) - 1
    lists = [[code.number(word) if code.has_good(word) else None for word in words]]
    for at in places:
        lists = with_each(lists, at, may_stand(book, words[at], at == last))
    texts = [text_of(book, numbers) for numbers in lists]
    return sorted(set([text for text in texts if text is not None]))
