import itertools
import unittest

from cablehouse.saying import is_text, said
from plain import KINDS, small_book, state
from refusals import check_refused

TWENTY = "abcdefghijklmnopqrst"
ONE, TWO, SIX, A, BC, LONG, END, FOUR = range(8)
ENTRIES = (
    ("phrase", "one"), ("phrase", "two words"), ("phrase", "u v w x y z"), ("part", "a"), ("part", "bc"),
    ("part", "abcdef"), ("end",), ("part", "mnop"),
)


def book():
    return small_book(ENTRIES)


def plainly_said(the_book, groups):
    """The text, or the place that a refusal names, by trying each beginning by the words of the promise."""
    for many in range(1, len(groups) + 1):
        if begins(the_book, groups[:many]) is None:
            return many - 1
    words, within = begins(the_book, groups)
    if within or not words:
        return len(groups)
    return " ".join(words)


def begins(the_book, groups):
    """The words that groups have said so far, the one being spelled as well, or None where one can't stand."""
    words, within = [], False
    for group in groups:
        kind, *letters = the_book.entry(group)
        if kind == "phrase" and not within:
            words += letters[0].split()
        elif kind == "part" and within:
            words[-1] += letters[0]
        elif kind == "part":
            words.append(letters[0])
            within = True
        elif kind == "end" and within:
            within = False
        else:
            return None
        if len(words) > 60 or len(words[-1]) > 20:
            return None
    return words, within


class TestIsText(unittest.TestCase):
    def test_texts(self):
        for thing in ("a", "z", TWENTY, "ship lost", " ".join(["a"] * 60), " ".join([TWENTY] * 60), "end", "none"):
            self.assertIs(is_text(thing), True)

    def test_what_is_none(self):
        for thing in (
            "", " ", "  ", " a", "a ", "a  b", "\n", "a\n", "a\nb", "a\tb", "A", "a B", "a1", "a.", "a-b", "?", "1", TWENTY + "u",
            "a " + TWENTY + "u", " ".join(["a"] * 61), " ".join([TWENTY] * 61), "a" * 5000, " " * 70, ["a"], ("a",),
            ["ship", "lost"], b"a", {"a"}, {"a": "b"},
        ) + tuple(thing for thing in KINDS if thing != "end"):
            with self.subTest(thing=thing):
                self.assertIs(is_text(thing), False)

    def test_each_number_of_words_and_letters(self):
        for many in range(1, 65):
            self.assertIs(is_text(" ".join(["ab"] * many)), many <= 60)
        for many in range(1, 25):
            self.assertIs(is_text("a" * many), many <= 20)
            self.assertIs(is_text("b " + "a" * many + " c"), many <= 20)

    def test_each_sign(self):
        for sign in [chr(number) for number in range(32, 127)] + ["\t", "\n"]:
            self.assertIs(is_text(sign), "a" <= sign <= "z")
            self.assertIs(is_text("a" + sign + "b"), "a" <= sign <= "z" or sign == " ")


class TestSaid(unittest.TestCase):
    def test_told_by_hand(self):
        for groups, text in (
            ([ONE], "one"),
            ([TWO, ONE], "two words one"),
            ([A, END], "a"),
            ([A, BC, A, END], "abca"),
            ([ONE, BC, END, TWO, A, END, LONG, END], "one bc two words a abcdef"),
            ([ONE, ONE, ONE], "one one one"),
            ([LONG, LONG, LONG, BC, END], "abcdef" * 3 + "bc"),
            ([A] * 20 + [END], "a" * 20),
            ([SIX] * 10, " ".join(["u v w x y z"] * 10)),
            ([A, END] * 60, " ".join(["a"] * 60)),
            (([A] * 20 + [END]) * 60, " ".join(["a" * 20] * 60)),
            ([ONE] * 59 + [A, A, END], " ".join(["one"] * 59 + ["aa"])),
        ):
            with self.subTest(groups=groups):
                self.assertEqual(said(book(), groups), text)
                self.assertIs(is_text(said(book(), groups)), True)

    def test_all_short_groups_as_the_promise_words_it(self):
        the_book = book()
        for many in range(5):
            for groups in itertools.product(range(8), repeat=many):
                told = plainly_said(the_book, list(groups))
                if isinstance(told, str):
                    self.assertEqual(said(the_book, list(groups)), told)
                else:
                    self.assertEqual(check_refused(self, "NoReading", said, the_book, list(groups)).at, told, groups)

    def test_groups_handed_in_and_the_book_stay(self):
        the_book = book()
        before = state(the_book)
        for groups in ([ONE, A, BC, END], [ONE, A], [END], [99], []):
            kept = list(groups)
            try:
                said(the_book, groups)
            except ValueError:
                pass
            self.assertEqual(groups, kept)
        self.assertEqual(state(the_book), before)

    def test_struck_entries_say_nothing(self):
        the_book = book()
        self.assertEqual(said(the_book, [ONE, TWO]), "one two words")
        the_book.strike(ENTRIES[TWO])
        self.assertEqual(check_refused(self, "NoReading", said, the_book, [ONE, TWO]).at, 1)


class TestNoReading(unittest.TestCase):
    def check_at(self, groups, at, the_book=None):
        refusal = check_refused(self, "NoReading", said, the_book or book(), groups)
        self.assertEqual(refusal.at, at, groups)
        self.assertIs(type(refusal.at), int)

    def test_what_is_no_number_of_an_entry(self):
        things = (8, 26, 27, -1, 10 ** 900, "0", "one", ENTRIES[ONE], ("end",), [0], 0.0, 1.0, 6.0)
        for thing in things + tuple(thing for thing in KINDS if type(thing) is not int):
            with self.subTest(thing=thing):
                self.check_at([thing], 0)
                self.check_at([thing, thing], 0)
                self.check_at([ONE, TWO, thing], 2)
                self.check_at([A, thing, END], 1)
                self.check_at([ONE, thing, END], 1)

    def test_truths(self):
        self.check_at([True], 0)
        self.check_at([False], 0)
        self.check_at([0, True], 1)
        self.check_at([ONE, A, END, False], 3)

    def test_a_phrase_within_a_spelled_word(self):
        self.check_at([A, ONE], 1)
        self.check_at([A, BC, TWO, END], 2)
        self.check_at([ONE, A, END, A, ONE, END], 4)

    def test_a_phrase_with_which_the_words_are_more_than_sixty(self):
        self.check_at([ONE] * 61, 60)
        self.check_at([SIX] * 10 + [ONE], 10)
        self.check_at([ONE] * 59 + [TWO], 59)
        self.check_at([ONE] * 55 + [SIX, ONE, ONE], 55)
        self.check_at([SIX] * 9 + [ONE, SIX], 10)
        self.check_at([A, END] * 60 + [ONE], 120)
        self.assertEqual(len(said(book(), [ONE] * 58 + [TWO]).split()), 60)

    def test_a_part_with_which_a_word_has_more_than_twenty_letters(self):
        self.check_at([A] * 21 + [END], 20)
        self.check_at([LONG] * 4 + [END], 3)
        self.check_at([LONG] * 3 + [BC, A, END], 4)
        self.check_at([LONG] * 3 + [A, BC, END], 4)
        self.check_at([ONE, A, END, LONG, LONG, LONG, A, BC], 7)
        self.assertEqual(said(book(), [A, END, LONG, LONG, LONG, A, A, END]), "a " + "abcdef" * 3 + "aa")

    def test_a_part_that_would_begin_the_sixty_first_word(self):
        self.check_at([ONE] * 60 + [A, END], 60)
        self.check_at([SIX] * 10 + [A], 10)
        self.check_at([A, END] * 61, 120)
        self.check_at([SIX] * 9 + [A, END] * 6 + [LONG, END], 21)

    def test_an_end_without_a_part_ahead(self):
        self.check_at([END], 0)
        self.check_at([ONE, END], 1)
        self.check_at([A, END, END], 2)
        self.check_at([A, END, ONE, END, A], 3)
        self.check_at([SIX] * 10 + [END], 10)

    def test_a_spelled_word_left_open(self):
        self.check_at([A], 1)
        self.check_at([ONE, A, BC], 3)
        self.check_at([A, END, A], 3)
        self.check_at([A] * 20, 20)
        self.check_at([ONE] * 59 + [A], 60)

    def test_no_group(self):
        self.check_at([], 0)
        self.check_at([], 0, small_book([]))
        self.check_at([0], 0, small_book([]))

    def test_the_first_that_cannot_stand(self):
        self.check_at([A, ONE, "x", END, END], 1)
        self.check_at([END, "x"], 0)
        self.check_at([ONE, None, A, ONE], 1)
        self.check_at([A, "x"], 1)


if __name__ == "__main__":
    unittest.main()
