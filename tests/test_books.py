import unittest

from cablehouse.books import Book, is_entry
from cablehouse.codes import Code
from plain import KINDS, small_book, state
from refusals import check_refused

TWENTY = "abcdefghijklmnopqrst"
LETTERS = "abcdefghijklmnopqrstuvwxyz"
ENTRIES = (
    ("phrase", "a"), ("phrase", "z"), ("phrase", TWENTY), ("phrase", "ship lost"), ("phrase", "a b c d e f"),
    ("phrase", " ".join([TWENTY] * 6)), ("phrase", "end"), ("phrase", "phrase part"), ("part", "a"), ("part", "z"),
    ("part", "abcdef"), ("part", "end"), ("end",),
)
NO_ENTRIES = (
    ("phrase", ""), ("phrase", " "), ("phrase", TWENTY + "u"), ("phrase", "a b c d e f g"), ("phrase", " a"),
    ("phrase", "a "), ("phrase", "a  b"), ("phrase", "A"), ("phrase", "ship Lost"), ("phrase", "ship-lost"),
    ("phrase", "ship\tlost"), ("phrase", "ship\nlost"), ("phrase", "lost\n"), ("phrase", "a1"), ("phrase", "a?"),
    ("phrase", "a " + TWENTY + "u b"), ("phrase", " ".join([TWENTY] * 7)), ("part", ""), ("part", "abcdefg"),
    ("part", "a b"), ("part", " a"), ("part", "a "), ("part", "aB"), ("part", "a1"), ("part", "ab\n"), ("part", "-"),
    ("end", ""), ("end", "a"), ("end", None), ("end", "end"), (), ("phrase",), ("part",), ("phrase", "a", "b"),
    ("part", "a", "b"), ("phrase", "a", None), ("End",), ("END",), ("Phrase", "a"), ("PART", "a"), ("word", "a"),
    ("", "a"), ("",), (None, "a"), (None,), ("a", "phrase"), (("end",),), ("phrase", None), ("phrase", 1),
    ("phrase", True), ("phrase", ["a"]), ("phrase", ("a",)), ("phrase", b"a"), ("part", None), ("part", 1),
    ("part", ["a"]), ("part", {"a": 1}), ([], "a"), ({}, "a"), ({1},), (0, "a"), (1.0,), ["phrase", "a"], ["part", "a"],
    ["end"], "end", "phrase a", {"phrase": "a"}, {"end"}, b"end", (b"end",), ("phrase", {"a"}),
) + tuple(thing for thing in KINDS)


def numbered(many):
    """So many unlike entries."""
    names = [one + two for one in LETTERS for two in LETTERS]
    return [("part", name) if at % 2 else ("phrase", name) for at, name in enumerate(names[:many])]


class TestIsEntry(unittest.TestCase):
    def test_entries(self):
        for thing in ENTRIES:
            with self.subTest(thing=thing):
                self.assertIs(is_entry(thing), True)

    def test_what_is_none(self):
        for thing in NO_ENTRIES:
            with self.subTest(thing=thing):
                self.assertIs(is_entry(thing), False)

    def test_each_number_of_words_and_letters(self):
        for many in range(1, 10):
            self.assertIs(is_entry(("phrase", " ".join(["ab"] * many))), many <= 6)
            self.assertIs(is_entry(("part", "a" * many)), many <= 6)
        for many in range(0, 25):
            self.assertIs(is_entry(("phrase", "b" * many)), 1 <= many <= 20)
            self.assertIs(is_entry(("phrase", "a " + "b" * many + " c")), 1 <= many <= 20)

    def test_each_sign(self):
        for sign in [chr(number) for number in range(32, 127)] + ["\t", "\n"]:
            small = sign in LETTERS
            self.assertIs(is_entry(("phrase", sign)), small)
            self.assertIs(is_entry(("part", sign)), small)
            self.assertIs(is_entry(("phrase", "a" + sign)), small)
            self.assertIs(is_entry(("phrase", "a" + sign + "b")), small or sign == " ")
            self.assertIs(is_entry(("part", "a" + sign + "b")), small)


class TestBook(unittest.TestCase):
    def test_a_new_book(self):
        code = Code("cab", [1, 2, 1], 0)
        book = Book(code)
        self.assertIs(book.code(), code)
        self.assertEqual(book.entries(), [])
        self.assertIsNone(book.entry(0))
        self.assertIsNone(book.number(("end",)))

    def test_put_by_none_takes_the_least_free_number(self):
        book = Book(Code("cab", [1, 2, 1], 0))
        self.assertEqual(book.put(("end",)), 0)
        self.assertEqual(book.put(("part", "a"), None), 1)
        self.assertEqual(book.put(("part", "b"), 3), 3)
        self.assertEqual(book.put(("part", "c")), 2)
        self.assertEqual(book.put(("part", "d")), 4)
        self.assertEqual(book.put(("part", "e"), number=8), 8)
        self.assertEqual(
            book.entries(),
            [(0, ("end",)), (1, ("part", "a")), (2, ("part", "c")), (3, ("part", "b")), (4, ("part", "d")),
             (8, ("part", "e"))],
        )

    def test_put_by_none_behind_a_strike(self):
        book = small_book(numbered(6))
        self.assertEqual(book.strike(numbered(6)[4]), 4)
        self.assertEqual(book.strike(numbered(6)[1]), 1)
        self.assertEqual(book.put(("end",)), 1)
        self.assertEqual(book.put(("phrase", "new")), 4)
        self.assertEqual(book.put(("phrase", "newer")), 6)

    def test_put_by_a_told_number(self):
        book = Book(Code("cab", [1, 2, 1], 0))
        for at, number in enumerate((8, 0, 5)):
            self.assertEqual(book.put(numbered(3)[at], number), number)
        self.assertEqual([number for number, _ in book.entries()], [0, 5, 8])

    def test_great_numbers(self):
        code = Code(LETTERS[:25], [1, 2, 1, 2, 1, 2, 1, 2], 3)
        book = Book(code)
        self.assertEqual(book.put(("end",), 25 ** 7 - 1), 25 ** 7 - 1)
        self.assertEqual(book.put(("part", "a"), 25 ** 6), 25 ** 6)
        self.assertEqual(book.entries(), [(25 ** 6, ("part", "a")), (25 ** 7 - 1, ("end",))])
        self.assertEqual(book.entry(25 ** 7 - 1), ("end",))
        check_refused(self, "NoNumber", book.put, ("part", "b"), 25 ** 7)

    def test_entry_and_number(self):
        book = small_book(ENTRIES)
        for at, entry in enumerate(ENTRIES):
            self.assertEqual(book.entry(at), entry)
            self.assertIs(type(book.entry(at)), tuple)
            self.assertEqual(book.number(entry), at)
        self.assertIsNone(book.number(("phrase", "no such")))
        self.assertIsNone(book.number(("part", "no")))

    def test_entry_of_anything(self):
        book = small_book(ENTRIES[:3])
        for thing in (3, 26, 27, -1, -3, 10 ** 20, "0", "a", [0], (0,), ("end",), ENTRIES[0]) + KINDS:
            if type(thing) is int and 0 <= thing < 3:
                continue
            with self.subTest(thing=thing):
                self.assertIsNone(book.entry(thing))
        self.assertEqual(book.entry(1), ENTRIES[1])
        self.assertIsNone(book.entry(True))
        self.assertIsNone(book.entry(1.0))

    def test_number_of_anything(self):
        book = small_book(ENTRIES)
        for thing in NO_ENTRIES:
            with self.subTest(thing=thing):
                self.assertIsNone(book.number(thing))

    def test_strike(self):
        book = small_book(ENTRIES)
        self.assertEqual(book.strike(ENTRIES[2]), 2)
        self.assertIsNone(book.entry(2))
        self.assertIsNone(book.number(ENTRIES[2]))
        self.assertEqual(book.entries(), [(at, entry) for at, entry in enumerate(ENTRIES) if at != 2])
        self.assertEqual(book.put(ENTRIES[2], 20), 20)
        self.assertEqual(book.strike(ENTRIES[2]), 20)
        self.assertEqual(book.put(("phrase", "other"), 2), 2)

    def test_strike_all(self):
        book = small_book(ENTRIES)
        for at, entry in enumerate(ENTRIES):
            self.assertEqual(book.strike(entry), at)
        self.assertEqual(book.entries(), [])

    def test_told_lists_are_the_asker_s_own(self):
        book = small_book(ENTRIES)
        told = book.entries()
        again = book.entries()
        before = list(told)
        told.clear()
        again[0] = (5, ("end",))
        self.assertEqual(book.entries(), before)
        kept = book.entries()
        book.strike(("end",))
        book.put(("part", "q"))
        self.assertEqual(kept, before)

    def test_books_share_nothing(self):
        code = Code("cab", [1, 2, 1], 0)
        one = Book(code)
        other = Book(code)
        one.put(("end",))
        self.assertEqual(other.entries(), [])
        other.put(("end",), 4)
        self.assertEqual(one.number(("end",)), 0)


class TestRefused(unittest.TestCase):
    def check(self, book, name, call, *given):
        """That a call is refused, and that the book is what it was."""
        before = state(book)
        check_refused(self, name, call, *given)
        self.assertEqual(state(book), before)
        for number, entry in before[3]:
            self.assertEqual(book.entry(number), entry)
            self.assertEqual(book.number(entry), number)

    def test_no_entry(self):
        book = small_book(ENTRIES)
        for thing in NO_ENTRIES:
            with self.subTest(thing=thing):
                self.check(book, "NoEntry", book.put, thing)
                self.check(book, "NoEntry", book.put, thing, 20)
                self.check(book, "NoEntry", book.strike, thing)

    def test_twice(self):
        book = small_book(ENTRIES)
        for entry in ENTRIES:
            self.check(book, "Twice", book.put, entry)
            self.check(book, "Twice", book.put, entry, 20)

    def test_no_number(self):
        book = Book(Code("cab", [1, 2, 1], 0))
        book.put(("end",), 3)
        for number in (3, 9, 10, -1, 10 ** 900, True, False, 0.0, 1.0, "1", "", [], [1], (1,), {}, {1: 1}, object(), ("end",)):
            with self.subTest(number=number):
                self.check(book, "NoNumber", book.put, ("part", "a"), number)
        self.assertEqual(book.put(("part", "a"), 8), 8)

    def test_strike_of_what_does_not_stand(self):
        book = small_book(ENTRIES[:4])
        for entry in ENTRIES[4:]:
            self.check(book, "NoEntry", book.strike, entry)
        book.strike(ENTRIES[0])
        self.check(book, "NoEntry", book.strike, ENTRIES[0])

    def test_a_book_of_300_entries(self):
        entries = numbered(302)
        book = small_book(entries[:300], weights=(1, 2, 1, 2, 1, 2, 1))
        self.assertEqual(book.entries(), list(enumerate(entries[:300])))
        self.check(book, "TooMany", book.put, entries[300])
        self.check(book, "TooMany", book.put, entries[300], 300)
        self.check(book, "TooMany", book.put, entries[300], 728)
        self.assertEqual(book.strike(entries[17]), 17)
        self.assertEqual(book.put(entries[300], 700), 700)
        self.check(book, "TooMany", book.put, entries[301])
        self.check(book, "TooMany", book.put, entries[301], 17)

    def test_a_book_of_299_entries_takes_one_more(self):
        book = small_book(numbered(299), weights=(1, 2, 1, 2, 1, 2, 1))
        self.assertEqual(book.put(numbered(300)[299]), 299)
        self.check(book, "TooMany", book.put, ("end",))

    def test_a_book_whose_good_words_are_all_taken(self):
        entries = numbered(10)
        book = small_book(entries[:9], weights=(1, 2, 1))
        self.check(book, "TooMany", book.put, entries[9])
        for number in range(9):
            self.check(book, "NoNumber", book.put, entries[9], number)
        book.strike(entries[8])
        self.assertEqual(book.put(entries[9]), 8)

    def test_the_first_of_several(self):
        entries = numbered(301)
        full = small_book(entries[:300], weights=(1, 2, 1, 2, 1, 2, 1))
        for thing in (("phrase", ""), ["end"], None):
            for number in (None, 5, 10 ** 9, "x", 400):
                self.check(full, "NoEntry", full.put, thing, number)
        for number in (None, 5, 0, 10 ** 9, "x", 400):
            self.check(full, "Twice", full.put, entries[5], number)
        for number in (5, 299, 729, -1, "x", True, [1]):
            self.check(full, "NoNumber", full.put, entries[300], number)
        self.check(full, "TooMany", full.put, entries[300], 400)
        self.check(full, "TooMany", full.put, entries[300])


if __name__ == "__main__":
    unittest.main()
