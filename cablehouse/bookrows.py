"""Books written as texts, a row for the code and one for each entry."""

from cablehouse.books import Book
from cablehouse.codes import Code
from cablehouse.errors import CableError, NoBook
from cablehouse.writing import code_written


def code_row(code):
    """The row of a code."""
    alphabet = code.alphabet()
    weights = ",".join([str(weight) for weight in code.weights()])
    rest = code.rest()
    return f"code {alphabet} {weights} {rest}"


def entry_row(word, entry):
    """The row of an entry with its good word."""
    if entry[0] == "end":
        return f"{word} ."
    sign = "=" if entry[0] == "phrase" else "+"
    letters = entry[1]
    return f"{word} {sign} {letters}"


def shown(book):
    """The text of a book."""
    code = book.code()
    rows = [entry_row(code.word(number), entry) for number, entry in book.entries()]
    return "\n".join([code_row(code)] + rows)


def entry_written(parts):
    """The entry that the parts of a row behind its word write; None of other parts."""
    if parts == ["."]:
        return ("end",)
    if len(parts) == 2 and parts[0] == "=":
        return ("phrase", parts[1])
    if len(parts) == 2 and parts[0] == "+":
        return ("part", parts[1])
    return None


def built(rows):
    """The book that rows write, in whatever order; refused where they make none."""
    fields = code_written(rows[0].split(" "))
    if fields is None:
        raise NoBook("the first row is no row of a code")
    code = Code(fields[0], fields[1], fields[2])
    book = Book(code)
    for row in rows[1:]:
        parts = row.split(" ", 2)
        book.put(entry_written(parts[1:]), code.number(parts[0]))
    return book


def read(text):
    """The book that a text writes."""
    if not isinstance(text, str):
        raise NoBook("a book is written as a text")
    try:
        book = built(text.split("\n"))
    except CableError:
        raise NoBook("the rows make no book") from None
    # A book is written in one way alone: whatever else makes the same one, such as rows exchanged, ends here.
    if shown(book) != text:
        raise NoBook("a book is not written so")
    return book
