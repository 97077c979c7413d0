"""What is promised over the whole program, from a code to a text that is read back."""

import itertools
import random
import unittest

from cablehouse.bookrows import read, shown
from cablehouse.books import Book
from cablehouse.codes import Code, unsafe_pair
from cablehouse.editions import Editions
from cablehouse.faults import faulty
from cablehouse.lines import garbled, got_across
from cablehouse.saying import said
from cablehouse.setting import least_groups, set_groups
from cablehouse.telegrams import readings, telegram
from cablehouse.weights import are_safe, first_safe
from plain import a_fault_apart, state
from refusals import check_refused

LETTERS = "qwertyuiopasdfghjklzxcvbn"
WORDS = "ship lost send coal at once no news from captain port".split()


def some_code(chosen):
    m = chosen.choice((3, 5, 7, 9, 15, 25))
    length = chosen.randint(4 if m < 9 else 3, 6)
    return Code("".join(chosen.sample(LETTERS, m)), first_safe(m, length), chosen.randrange(m))


def some_book(chosen, code):
    """A book with some phrases and with all letters as parts, so that each text can be set."""
    book = Book(code)
    entries = [("end",)] + [("part", letter) for letter in "abcdefghijklmnopqrstuvwxyz"]
    if code.many() < 60:
        entries = [("phrase", word) for word in WORDS]
    for _ in range(20):
        entries.append(("phrase", " ".join(chosen.choices(WORDS, k=chosen.randint(1, 6)))))
        entries.append(("part", "".join(chosen.choices("aeiost", k=chosen.randint(2, 6)))))
    numbers = chosen.sample(range(code.many()), min(code.many(), len(entries)))
    for entry, number in zip(entries, numbers):
        if book.number(entry) is None:
            book.put(entry, number)
    return book


def some_text(chosen):
    return " ".join(chosen.choices(WORDS, k=chosen.randint(1, 12)))


class TestWhole(unittest.TestCase):
    def test_of_each_code_it_is_told_whether_a_fault_confuses_it(self):
        for m, length in ((3, 3), (3, 4), (4, 3), (5, 3), (6, 3)):
            alphabet = LETTERS[:m]
            for weights in itertools.product(range(m), repeat=length):
                for rest in range(m):
                    pair = unsafe_pair(alphabet, list(weights), rest)
                    if are_safe(list(weights), m):
                        self.assertIsNone(pair)
                        Code(alphabet, list(weights), rest)
                    else:
                        check_refused(self, "NoCode", Code, alphabet, list(weights), rest)
                        self.assertTrue(pair is None or a_fault_apart(*pair))

    def test_one_fault_is_never_taken_for_another_word(self):
        chosen = random.Random(20)
        for _ in range(12):
            code = some_code(chosen)
            for number in chosen.sample(range(code.many()), min(40, code.many())):
                word = code.word(number)
                self.assertEqual(code.number(word), number)
                self.assertFalse(any(code.has_good(other) for other in faulty(code, word)))

    def test_from_text_to_text(self):
        chosen = random.Random(21)
        for _ in range(40):
            code = some_code(chosen)
            book = read(shown(some_book(chosen, code)))
            text = some_text(chosen)
            before = state(book)
            groups = set_groups(book, text)
            self.assertEqual(len(groups), least_groups(book, text)[-1])
            self.assertEqual(said(book, groups), text)
            words = telegram(book, groups)
            self.assertEqual(readings(book, words), [text])
            one, other = sorted(chosen.sample(range(len(words)), 2))
            came = garbled(code, words, [(0, one, "letter", chosen.randrange(10 ** 6))], 0)
            self.assertNotEqual(came, words)
            self.assertEqual(readings(book, came), [text])
            came = garbled(code, came, [(0, other, "letter", chosen.randrange(10 ** 6))], 0)
            self.assertIn(text, readings(book, came))
            self.assertEqual(state(book), before)

    def test_asked_again_a_house_comes_to_the_text(self):
        chosen = random.Random(22)
        for _ in range(40):
            code = some_code(chosen)
            book = some_book(chosen, code)
            text = some_text(chosen)
            words = telegram(book, set_groups(book, text))
            faults = [
                (chosen.randrange(5), chosen.randrange(len(words)), chosen.choice(("letter", "swap")), chosen.randrange(10 ** 6))
                for _ in range(30)
            ]
            ended, sendings = got_across(book, words, faults)
            self.assertEqual(readings(book, ended), [text])
            self.assertLessEqual(len(sendings), len({fault[0] for fault in faults}) + 1)

    def test_what_can_t_be_set_is_told_how_far(self):
        chosen = random.Random(23)
        code = Code(LETTERS, first_safe(25, 4), 3)
        book = Book(code)
        for word in WORDS:
            book.put(("phrase", word))
        for _ in range(30):
            text = some_text(chosen)
            many = len(text.split(" "))
            self.assertEqual(check_refused(self, "NoSetting", set_groups, book, text + " unknown " + text).at, many)

    def test_editions_of_thirty_days(self):
        chosen = random.Random(24)
        for _ in range(15):
            made = Editions(some_code(chosen))
            for word in WORDS[:8]:
                made.put(3, ("phrase", word))
            book = made.book(3)
            text = " ".join(chosen.choices(WORDS[:8], k=2))
            words = telegram(book, set_groups(book, text))
            struck = ("phrase", text.split(" ")[0])
            made.strike(chosen.choice((3, 4, 20)), struck)
            for at, word in enumerate(("new", "newer", "newest")):
                made.put(33 if at == 2 else 32, ("phrase", word))
            for day in range(3, 34):
                self.assertIn(readings(made.book(day), words), ([text], []))
            self.assertEqual(readings(made.book(33), words), [])


if __name__ == "__main__":
    unittest.main()
