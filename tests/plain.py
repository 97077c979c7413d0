"""What several test files ask of words, told by plain search, and things of all kinds."""

import itertools

from cablehouse.books import Book
from cablehouse.codes import Code

KINDS = (
    None, True, False, 0, 1, -1, 10 ** 900, 1.0, 0.5, float("nan"), 1j, "", " ", "?", "1", "end", b"", b"ab", [], [1],
    [[]], ["end"], (), (1,), ((),), ([],), (None,), {}, {1: 1}, {1}, frozenset(), range(3), object(), str, len, Exception(),
)


def plainly_good(alphabet, weights, rest, word):
    total = 0
    for at, letter in enumerate(word):
        total += alphabet.index(letter) * weights[at]
    return (total - rest) % len(alphabet) == 0


def words_of(alphabet, length):
    """All words in the order of their letters' places."""
    return ["".join(letters) for letters in itertools.product(alphabet, repeat=length)]


def a_fault_apart(one, other):
    """Whether a letter exchanged, or two unlike neighbours exchanged, makes one word of the other."""
    unlike = [at for at in range(len(one)) if one[at] != other[at]]
    if len(one) != len(other) or len(unlike) not in (1, 2):
        return False
    if len(unlike) == 1:
        return True
    left, right = unlike
    return right == left + 1 and one[left] == other[right] and one[right] == other[left]


def small_book(entries, alphabet="abc", weights=(1, 2, 1, 2), rest=0):
    """A book of a small code with these entries, by the numbers from 0 on."""
    book = Book(Code(alphabet, list(weights), rest))
    for entry in entries:
        book.put(entry)
    return book


def state(book):
    """All that a book tells of itself, to be compared behind a refusal."""
    code = book.code()
    return (code.alphabet(), code.weights(), code.rest(), book.entries())
