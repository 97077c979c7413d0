import random
import unittest

from cablehouse.bookrows import read, shown
from cablehouse.books import Book
from cablehouse.codes import Code
from plain import KINDS, small_book, state
from refusals import check_refused

ODD_MOST = "qwertyuiopasdfghjklzxcvbn"
SHOWN = "\n".join((
    "code cab 1,2,1 0",
    "ccc = ship lost",
    "caa + gh",
    "cbb .",
    "bbc = a b c d e f",
))


def hand_made():
    book = Book(Code("cab", [1, 2, 1], 0))
    book.put(("phrase", "a b c d e f"), 8)
    book.put(("end",), 2)
    book.put(("phrase", "ship lost"))
    book.put(("part", "gh"))
    return book


def some_book(seed):
    """A book of some code with some entries."""
    chosen = random.Random(seed)
    alphabet = "".join(chosen.sample(ODD_MOST, chosen.choice((3, 5, 7, 11, 25))))
    weights = ([1, 2] * 4)[:chosen.randint(3, 8)]
    book = Book(Code(alphabet, weights, chosen.randrange(len(alphabet))))
    for _ in range(chosen.randint(0, 9)):
        letters = "".join(chosen.choices("abcxyz", k=chosen.randint(1, 6)))
        words = [letters] + ["".join(chosen.choices("abc", k=chosen.randint(1, 20))) for _ in range(chosen.randint(0, 5))]
        entry = chosen.choice((("part", letters), ("phrase", " ".join(words)), ("end",)))
        number = chosen.randrange(book.code().many())
        if book.number(entry) is None and book.entry(number) is None:
            book.put(entry, number)
    return book


class TestShown(unittest.TestCase):
    def test_told_by_hand(self):
        self.assertEqual(shown(hand_made()), SHOWN)

    def test_a_book_without_entries(self):
        self.assertEqual(shown(Book(Code("xyz", [2, 1, 2, 1], 2))), "code xyz 2,1,2,1 2")
        self.assertEqual(shown(Book(Code(ODD_MOST, [24, 23, 12], 20))), f"code {ODD_MOST} 24,23,12 20")

    def test_the_book_stays(self):
        book = hand_made()
        before = state(book)
        shown(book)
        self.assertEqual(state(book), before)


class TestRead(unittest.TestCase):
    def check_back(self, book):
        text = shown(book)
        again = read(text)
        self.assertIs(type(again), Book)
        self.assertEqual(state(again), state(book))
        self.assertEqual(shown(again), text)

    def test_what_is_shown_is_read(self):
        self.check_back(hand_made())
        for seed in range(120):
            self.check_back(some_book(seed))

    def test_books_without_entries(self):
        self.check_back(Book(Code("cab", [1, 2, 1], 0)))
        self.check_back(Book(Code(ODD_MOST, [24, 23, 12, 1, 2, 4, 8, 16], 24)))

    def test_books_of_300_entries_and_of_all_good_words(self):
        letters = "abcdefghijklmnopqrst"
        entries = [("part", one + two) for one in letters for two in letters]
        self.check_back(small_book(entries[:300], weights=(1, 2, 1, 2, 1, 2, 1)))
        self.check_back(small_book(entries[:9], weights=(1, 2, 1)))

    def test_entries_at_their_bounds(self):
        self.check_back(small_book([("phrase", " ".join(["t" * 20] * 6)), ("part", "abcdef"), ("part", "a"), ("end",)]))

    def test_a_book_read_may_be_changed(self):
        book = read(SHOWN)
        book.strike(("end",))
        self.assertEqual(book.put(("part", "new")), 2)
        self.assertEqual(state(read(SHOWN)), state(hand_made()))


class TestNoBook(unittest.TestCase):
    def check_each(self, texts):
        for text in texts:
            with self.subTest(text=text):
                check_refused(self, "NoBook", read, text)

    def test_rows_exchanged(self):
        rows = SHOWN.split("\n")
        for one in range(len(rows)):
            for other in range(one):
                changed = list(rows)
                changed[one], changed[other] = rows[other], rows[one]
                self.check_each(["\n".join(changed)])

    def test_rows_twice_or_missing(self):
        rows = SHOWN.split("\n")
        for at in range(len(rows)):
            self.check_each(["\n".join(rows[:at + 1] + rows[at:]), "\n".join(rows + [rows[at]])])
        self.check_each(["\n".join(rows[1:]), "", "\n"])
        self.assertEqual(len(read("\n".join(rows[:1] + rows[2:])).entries()), 3)

    def test_an_entry_twice(self):
        self.check_each([
            "code cab 1,2,1 0\nccc .\ncaa .",
            "code cab 1,2,1 0\nccc + a\ncaa + a",
            "code cab 1,2,1 0\nccc = a b\ncaa = a b",
        ])
        self.assertEqual(len(read("code cab 1,2,1 0\nccc + a\ncaa = a").entries()), 2)

    def test_a_word_twice(self):
        self.check_each(["code cab 1,2,1 0\nccc + a\nccc + b", "code cab 1,2,1 0\nccc + a\nccc ."])

    def test_words_that_are_not_good(self):
        self.check_each([f"code cab 1,2,1 0\n{word} ." for word in (
            "cca", "cc", "cccc", "", "ccd", "CCC", "???", "cc?", "0", "c c")])

    def test_blanks_more_or_fewer(self):
        for at in range(len(SHOWN) + 1):
            self.check_each([SHOWN[:at] + " " + SHOWN[at:]] if not SHOWN[at - 1:at + 1].isalpha() else [])
        for at, sign in enumerate(SHOWN):
            # Of the blanks within a phrase each parts two words that may also stand as one.
            if sign == " " and "= " not in SHOWN[SHOWN.rfind("\n", 0, at) + 1:at]:
                self.check_each([SHOWN[:at] + SHOWN[at + 1:]])
        self.check_each([SHOWN.replace("= ship", "=ship"), SHOWN.replace("ccc =", "ccc="), SHOWN.replace(" ", "\t")])

    def test_line_feeds(self):
        self.check_each([SHOWN + "\n", "\n" + SHOWN, SHOWN + "\n\n", SHOWN.replace("\n", "\n\n"), SHOWN.replace("\n", "\r\n")])
        for at in range(len(SHOWN) + 1):
            self.check_each([SHOWN[:at] + "\n" + SHOWN[at:]])
        self.check_each(["code cab 1,2,1 0\n", "code cab 1,2,1 0 ", SHOWN.replace("\n", " ")])

    def test_noughts_ahead(self):
        self.check_each([
            "code cab 01,2,1 0", "code cab 1,02,1 0", "code cab 1,2,1 00", "code cab 1,2,01 0", "code exilk 1,2,1 04",
            "code cab +1,2,1 0", "code cab 1,2,1 +0", "code cab 1,2,1 -0", "code exilk 1,2,1 0_4", "code cab 1.,2,1 0",
        ])
        self.assertEqual(read("code exilk 1,2,1 4").code().rest(), 4)

    def test_what_makes_no_code(self):
        self.check_each([
            "code cab 1,0,1 0", "code cab 1,1,2 0", "code cab 1,2,1 3", "code cab 1,5,1 0", "code cab 1,2 0",
            "code cab 1,2,1,2,1,2,1,2,1 0", "code abcd 1,3,1 0", "code ab 1,0,1 0", "code caa 1,2,1 0", "code CAB 1,2,1 0",
            "code cab 1,2,-1 0", "code cab 1,2,1 -1", "code cab 1,2,4 0", "code cab 1 0", "code cab 1,2,1 " + "9" * 5000,
            "code cab 1,2," + "9" * 5000 + " 0", "code ca1 1,2,1 0", "code cab " + "1,2," * 1000 + "1 0",
        ])

    def test_bad_first_rows(self):
        self.check_each([
            "", "code", "code ", "code cab", "code cab 1,2,1", "code cab 1,2,1 ", "code  1,2,1 0", "code cab  0",
            "cod cab 1,2,1 0", "Code cab 1,2,1 0", "cab 1,2,1 0", "code cab 1,2,1 0 0", "code cab 1;2;1 0", "code cab 121 0",
            "code cab ,1,2,1 0", "code cab 1,2,1, 0", "code cab 1,,2,1 0", "code cab 1, 2, 1 0", "code cab 1,2,1 0 ccc .",
            "code cab [1,2,1] 0", "code cab 1,2,1 c", "code cab a,b,c 0",
        ])

    def test_bad_rows(self):
        self.check_each(["code cab 1,2,1 0\n" + row for row in (
            "ccc", "ccc ", "ccc =", "ccc = ", "ccc +", "ccc + ", "ccc . ", "ccc . a", "ccc .a", "ccc end", "ccc - a",
            "ccc == a", "ccc =+ a", "ccc + a b", "ccc + abcdefg", "ccc + A", "ccc = A", "ccc = a b c d e f g",
            "ccc = " + "a" * 21, "ccc = a  b", "ccc = a ", "ccc =  a", "ccc  = a", " ccc = a", "ccc = a.", "0 = a",
            "= a", ".", "+ a", "ccc a =", "ccc . .", "ccc = a\tb",
        )])

    def test_more_than_300_entries(self):
        code = Code("cab", [1, 2, 1, 2, 1, 2, 1], 0)
        letters = "abcdefghijklmnopqrst"
        names = [one + two for one in letters for two in letters]
        rows = ["code cab 1,2,1,2,1,2,1 0"] + [f"{code.word(k)} + {names[k]}" for k in range(301)]
        self.assertEqual(len(read("\n".join(rows[:301])).entries()), 300)
        self.check_each(["\n".join(rows)])

    def test_things_that_are_no_texts(self):
        self.check_each(KINDS + (
            SHOWN.encode(), [SHOWN], (SHOWN,), SHOWN.split("\n"), {SHOWN: 1}, hand_made(), Code("cab", [1, 2, 1], 0)))


if __name__ == "__main__":
    unittest.main()
