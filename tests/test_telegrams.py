import itertools
import random
import unittest

from cablehouse.books import Book
from cablehouse.codes import Code
from cablehouse.errors import NoReading
from cablehouse.faults import faulty, nearest
from cablehouse.saying import said
from cablehouse.setting import set_groups
from cablehouse.telegrams import check_of, doubtful, readings, telegram
from plain import KINDS, small_book, state
from refusals import check_refused

LETTERS = "qwertyuiopasdfghjklzxcvbn"
ENTRIES = (
    ("phrase", "ship"), ("phrase", "ship lost"), ("phrase", "send coal"), ("part", "a"), ("part", "b"), ("part", "abc"),
    ("end",), ("phrase", "lost"),
)


def great_book():
    """A book of a great code whose entries stand by numbers far apart."""
    book = Book(Code(LETTERS, [1, 2, 1, 2, 1], 7))
    for at, entry in enumerate(ENTRIES):
        book.put(entry, 390000 - 40000 * at + at)
    return book


def dense_book():
    """A book in which most good words have an entry, so that many readings are left."""
    return small_book([("phrase", a + b) for a in "abcde" for b in "abcde"][:24] + [("end",), ("part", "a")])


def plain_readings(book, words):
    """The readings by trying all lists of good words, as the promise words it."""
    code = book.code()
    choices = []
    for at, word in enumerate(words):
        last = at == len(words) - 1
        may = [word] if code.has_good(word) else nearest(code, word)
        choices.append([one for one in may if last or book.entry(code.number(one)) is not None])
    texts = set()
    for chosen in itertools.product(*choices):
        numbers = [code.number(word) for word in chosen]
        if numbers[-1] == (sum(numbers[:-1]) + len(numbers) - 1) % code.many():
            try:
                texts.add(said(book, numbers[:-1]))
            except NoReading:
                pass
    return sorted(texts)


def plain_doubtful(book, words):
    code = book.code()
    places = []
    for at, word in enumerate(words):
        if not code.has_good(word):
            places.append(at)
        elif at < len(words) - 1 and book.entry(code.number(word)) is None:
            places.append(at)
    return places


class TestCheckOf(unittest.TestCase):
    def test_told_by_hand(self):
        code = Code("abc", [1, 2, 1], 0)
        for groups, number in (
            ([], 0), ([0], 1), ([3], 4), ([7], 8), ([8], 0), ([3, 4], 0), ([3, 5], 1), ([8, 8], 0), ([0] * 9, 0),
            ([0] * 1400, 1400 % 9), ([8] * 100, 0), ([7] * 100, 800 % 9), ([2, 5, 1], 2),
        ):
            with self.subTest(groups=groups):
                self.assertEqual(check_of(code, groups), code.word(number))

    def test_great_codes(self):
        code = Code(LETTERS, [1, 2, 1, 2, 1, 2, 1, 2], 3)
        most = 25 ** 7
        self.assertEqual(check_of(code, [most - 2]), code.word(most - 1))
        self.assertEqual(check_of(code, [most - 1]), code.word(0))
        self.assertEqual(check_of(code, [most - 1, most - 1, 5]), code.word(6))

    def test_groups_handed_in_stay(self):
        code = Code("abc", [1, 2, 1], 0)
        groups = [3, 1]
        check_of(code, groups)
        self.assertEqual(groups, [3, 1])

    def test_the_order_of_groups_does_not_count(self):
        code = Code("abc", [1, 2, 1], 1)
        self.assertEqual(check_of(code, [1, 2, 6]), check_of(code, [6, 1, 2]))


class TestTelegram(unittest.TestCase):
    def test_told_by_hand(self):
        book = small_book(ENTRIES, weights=(1, 2, 1))
        code = book.code()
        self.assertEqual([code.word(k) for k in range(9)], ["aaa", "abb", "acc", "bac", "bba", "bcb", "cab", "cbc", "cca"])
        self.assertEqual(telegram(book, [1]), ["abb", "acc"])
        self.assertEqual(telegram(book, [7, 3, 6]), ["cbc", "bac", "cab", "abb"])

    def test_words_and_check(self):
        book = great_book()
        code = book.code()
        for text in ("ship", "ship lost abc send coal", "ab ba abcabc", "lost " * 59 + "a"):
            groups = set_groups(book, text)
            words = telegram(book, groups)
            self.assertEqual(words[:-1], [code.word(group) for group in groups])
            self.assertEqual(words[-1], check_of(code, groups))
            self.assertTrue(all(code.has_good(word) for word in words))

    def test_groups_that_say_no_text(self):
        book = small_book(ENTRIES)
        for groups, at in (([], 0), ([6], 0), ([3], 1), ([3, 0], 1), ([0, 9], 1), ([0, True], 1), ([0] * 61, 60), (["x"], 0)):
            with self.subTest(groups=groups):
                kept = list(groups)
                self.assertEqual(check_refused(self, "NoReading", telegram, book, groups).at, at)
                self.assertEqual(groups, kept)

    def test_what_is_told_and_handed_in_is_the_asker_s_own(self):
        book = small_book(ENTRIES)
        before = state(book)
        groups = [0, 3, 6]
        words = telegram(book, groups)
        kept = list(words)
        words.clear()
        self.assertEqual(groups, [0, 3, 6])
        self.assertEqual(telegram(book, groups), kept)
        self.assertEqual(state(book), before)


class TestDoubtful(unittest.TestCase):
    def test_told_by_hand(self):
        # Of the good words aaa, abb and acc alone are in the book.
        book = small_book(ENTRIES[:3], weights=(1, 2, 1))
        for words, places in (
            (["aaa", "abb"], []),
            (["aaa", "cca"], []),
            (["cca", "aaa"], [0]),
            (["cca", "cca"], [0]),
            (["aab", "aaa"], [0]),
            (["aaa", "aab"], [1]),
            (["aab", "bac", "acc", "ccc"], [0, 1, 3]),
            (["ccc", "ccc"], [0, 1]),
        ):
            with self.subTest(words=words):
                self.assertEqual(doubtful(book, words), places)

    def test_against_the_promise(self):
        chosen = random.Random(7)
        book = small_book(ENTRIES)
        for _ in range(300):
            words = ["".join(chosen.choices("abc", k=4)) for _ in range(chosen.randint(2, 9))]
            self.assertEqual(doubtful(book, words), plain_doubtful(book, words))

    def test_a_good_word_that_is_not_in_the_book_may_be_the_check(self):
        book = small_book([("phrase", "a")])
        self.assertEqual(doubtful(book, [book.code().word(0), book.code().word(1)]), [])
        self.assertEqual(doubtful(book, [book.code().word(1), book.code().word(1)]), [0])

    def test_a_told_list_is_the_asker_s_own(self):
        book = small_book(ENTRIES)
        words = ["cccc", "aaaa", "aaab"]
        told = doubtful(book, words)
        before = list(told)
        told.append(9)
        self.assertEqual(doubtful(book, words), before)
        self.assertEqual(words, ["cccc", "aaaa", "aaab"])


class TestNoWords(unittest.TestCase):
    def test_what_is_no_list_of_words_of_the_code(self):
        book = small_book(ENTRIES)
        word = book.code().word(0)
        for thing in (
            [], [word], [word] * 1401, [word] * 2000, (word, word), {word: word}, {word}, word, word + " " + word,
            [word, ""], [word, word + "a"], [word[:-1], word], [word, "dddd"], [word, "AAAA"], [word, "aa a"],
            [word, "aaa?"], [word, "aaa\n"], [None, word], [word, None], [word, 0], [word, True], [word, [word]], [[word, word]],
            [word, b"aaaa"], [word, ("a", "a", "a", "a")], [word, ["a", "a", "a", "a"]], iter([word, word]),
        ) + KINDS:
            with self.subTest(thing=str(thing)[:60]):
                check_refused(self, "NoWord", doubtful, book, thing)
                check_refused(self, "NoWord", readings, book, thing)

    def test_two_words_and_1400(self):
        book = small_book(ENTRIES)
        word = book.code().word(0)
        self.assertEqual(doubtful(book, [word] * 2), [])
        self.assertEqual(doubtful(book, [word] * 1400), [])
        self.assertEqual(readings(book, [word] * 1400), [])
        self.assertEqual(doubtful(book, ["aaab"] * 1400), list(range(1400)))

    def test_no_word_is_ahead_of_too_garbled(self):
        check_refused(self, "NoWord", readings, small_book(ENTRIES), ["aaab"] * 4 + ["none"])
        check_refused(self, "NoWord", readings, small_book(ENTRIES), ["aaab"] * 1401)


class TestReadings(unittest.TestCase):
    def test_none_one_and_several(self):
        book = dense_book()
        found = {0: 0, 1: 0, 2: 0}
        chosen = random.Random(8)
        for _ in range(400):
            words = telegram(book, [chosen.randrange(24) for _ in range(chosen.randint(1, 4))])
            for at in chosen.sample(range(len(words)), chosen.randint(0, 2)):
                words[at] = "".join(chosen.choices("abc", k=4))
            if len(plain_doubtful(book, words)) > 2:
                continue
            told = readings(book, words)
            self.assertEqual(told, plain_readings(book, words), words)
            self.assertIs(type(told), list)
            found[min(len(told), 2)] += 1
        self.assertGreater(min(found.values()), 5)

    def test_a_wrong_check_leaves_none(self):
        book = small_book(ENTRIES)
        words = telegram(book, [0, 2])
        code = book.code()
        for number in range(code.many()):
            told = readings(book, words[:-1] + [code.word(number)])
            self.assertEqual(told, ["ship send coal"] if code.word(number) == words[-1] else [])

    def test_words_exchanged_whole_that_say_no_text_leave_none(self):
        book = small_book(ENTRIES)
        code = book.code()
        for groups in ([6], [3], [3, 0], [6, 6], [0] * 61):
            words = [code.word(group) for group in groups] + [check_of(code, groups)]
            self.assertEqual(readings(book, words), [])

    def test_readings_alike_are_told_once(self):
        # The groups 0, 1 and 1, 0 have one sum and spell one word, and a word may be near to both of their words.
        book = small_book([("part", "a"), ("part", "aa"), ("end",), ("phrase", "aaa")])
        code = book.code()
        for k in range(4, 27):
            book.put(("part", "b" * (k % 6 + 1)) if k < 10 else ("phrase", "x" * (k - 9)), k)
        told_twice = 0
        words = telegram(book, [0, 1, 2])
        for one in faulty(code, words[0]):
            for other in faulty(code, words[1]):
                came = [one, other] + words[2:]
                told = readings(book, came)
                self.assertEqual(told, plain_readings(book, came))
                self.assertEqual(len(set(told)), len(told))
                self.assertIn("aaa", told)
                both = {code.word(0), code.word(1)}
                told_twice += both <= set(nearest(code, one)) and both <= set(nearest(code, other))
        self.assertGreater(told_twice, 0)

    def test_too_garbled(self):
        book = great_book()
        code = book.code()
        words = telegram(book, set_groups(book, "ship lost abc send coal lost ab"))
        for many in range(3, len(words) + 1):
            for places in itertools.islice(itertools.combinations(range(len(words)), many), 40):
                came = [faulty(code, word)[3] if at in places else word for at, word in enumerate(words)]
                refusal = check_refused(self, "TooGarbled", readings, book, came)
                self.assertEqual(refusal.places, list(places))
                self.assertIs(type(refusal.places), list)

    def test_too_garbled_counts_good_words_that_are_not_in_the_book(self):
        book = small_book(ENTRIES)
        code = book.code()
        stray = code.word(20)
        self.assertEqual(check_refused(self, "TooGarbled", readings, book, [stray] * 3 + [code.word(0)]).places, [0, 1, 2])
        self.assertEqual(readings(book, [stray] * 2 + [code.word(0)]), [])
        self.assertEqual(readings(book, [stray] * 3), [])

    def test_never_too_garbled_for_two(self):
        book = small_book(ENTRIES)
        chosen = random.Random(9)
        for _ in range(300):
            words = ["".join(chosen.choices("abc", k=4)) for _ in range(chosen.randint(2, 6))]
            places = plain_doubtful(book, words)
            if len(places) > 2:
                self.assertEqual(check_refused(self, "TooGarbled", readings, book, words).places, places)
            else:
                self.assertEqual(readings(book, words), plain_readings(book, words))

    def test_what_is_told_and_handed_in_is_the_asker_s_own(self):
        book = small_book(ENTRIES)
        before = state(book)
        words = telegram(book, [0, 1])
        kept = list(words)
        told = readings(book, words)
        told.clear()
        self.assertEqual(words, kept)
        self.assertEqual(readings(book, words), ["ship ship lost"])
        refusal = check_refused(self, "TooGarbled", readings, book, ["aaab"] * 3)
        refusal.places.clear()
        self.assertEqual(check_refused(self, "TooGarbled", readings, book, ["aaab"] * 3).places, [0, 1, 2])
        self.assertEqual(state(book), before)


class TestFaultsAreMended(unittest.TestCase):
    TEXTS = ("ship", "ship lost", "ship lost abc send coal", "ab lost ba", "abcab ship lost lost", "a a a a")

    def test_without_a_fault_one_reading(self):
        for book in (small_book(ENTRIES), small_book(ENTRIES, weights=(1, 2, 1)), great_book()):
            for text in self.TEXTS:
                self.assertEqual(readings(book, telegram(book, set_groups(book, text))), [text])

    def test_one_fault_at_each_place_of_each_kind(self):
        for book in (small_book(ENTRIES), small_book(ENTRIES, weights=(1, 2, 1)), great_book(), dense_book()):
            for text in self.TEXTS:
                if book.entry(0) == ("phrase", "aa"):
                    text = "aa cd dc eb"
                words = telegram(book, set_groups(book, text))
                for at, word in enumerate(words):
                    for other in faulty(book.code(), word):
                        self.assertEqual(readings(book, words[:at] + [other] + words[at + 1:]), [text])

    def test_two_faults_in_two_words(self):
        several = 0
        for book, text in (
            (small_book(ENTRIES), "ship lost ab"), (small_book(ENTRIES, weights=(1, 2, 1)), "ship lost send coal"),
            (dense_book(), "aa cd dc"),
        ):
            words = telegram(book, set_groups(book, text))
            for one, other in itertools.combinations(range(len(words)), 2):
                for first in faulty(book.code(), words[one]):
                    for second in faulty(book.code(), words[other]):
                        came = list(words)
                        came[one], came[other] = first, second
                        told = readings(book, came)
                        self.assertIn(text, told)
                        several += len(told) > 1
        self.assertGreater(several, 0)

    def test_two_faults_in_a_telegram_of_many_words(self):
        book = great_book()
        text = " ".join(["abcaabcbbaabcabcabca"] * 60)
        words = telegram(book, set_groups(book, text))
        self.assertGreater(len(words), 500)
        came = list(words)
        came[3] = faulty(book.code(), words[3])[17]
        self.assertEqual(readings(book, came), [text])
        came[-1] = faulty(book.code(), words[-1])[5]
        self.assertIn(text, readings(book, came))


if __name__ == "__main__":
    unittest.main()
