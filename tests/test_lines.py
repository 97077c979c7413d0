import random
import unittest

from cablehouse.books import Book
from cablehouse.codes import Code
from cablehouse.faults import faulty
from cablehouse.lines import garbled, got_across
from cablehouse.setting import set_groups
from cablehouse.telegrams import readings, telegram
from plain import a_fault_apart, small_book, state

LETTERS = "qwertyuiopasdfghjklzxcvbn"
SMALL = Code("cab", [1, 2, 1], 0)
FIVE = Code("exilk", [4, 2, 1, 3], 3)
GREAT = Code(LETTERS, [1, 2, 1, 2, 1, 2, 1, 2], 7)
ENTRIES = (("phrase", "ship"), ("phrase", "ship lost"), ("phrase", "send coal"), ("part", "a"), ("part", "b"), ("end",))


def plainly_garbled(code, word, kind, number):
    """What a fault makes of a word, step by step as the promise words it."""
    letters = list(word)
    length, m = len(word), len(code.alphabet())
    if kind == "letter":
        q, k = divmod(number, length)
        place = code.alphabet().index(letters[k]) + 1 + q % (m - 1)
        if place >= m:
            place -= m
        letters[k] = code.alphabet()[place]
    else:
        k = number % (length - 1)
        letters[k], letters[k + 1] = letters[k + 1], letters[k]
    return "".join(letters)


def small_and_great_books():
    great = Book(GREAT)
    for at, entry in enumerate(ENTRIES):
        great.put(entry, 25 ** 7 - 1 - at * 10 ** 8)
    return (small_book(ENTRIES), small_book(ENTRIES, "cab", (2, 1, 2), 1), great)


class TestGarbled(unittest.TestCase):
    def test_letters_told_by_hand(self):
        # c, a, b stand at 0, 1, 2: an exchange leads one or two places further, over the end to the begin.
        for number, came in (
            (0, "aab"), (1, "cbb"), (2, "cac"), (3, "bab"), (4, "ccb"), (5, "caa"), (6, "aab"), (9, "bab"), (11, "caa"),
        ):
            self.assertEqual(garbled(SMALL, ["cab"], [(0, 0, "letter", number)], 0), [came])

    def test_swaps_told_by_hand(self):
        for number, came in ((0, "acb"), (1, "cba"), (2, "acb"), (3, "cba"), (10 ** 20, "acb"), (10 ** 20 + 1, "cba")):
            self.assertEqual(garbled(SMALL, ["cab"], [(0, 0, "swap", number)], 0), [came])

    def test_neighbours_alike_stay(self):
        self.assertEqual(garbled(SMALL, ["cca", "aaa"], [(0, 0, "swap", 0), (0, 1, "swap", 1)], 0), ["cca", "aaa"])
        self.assertEqual(garbled(SMALL, ["cca"], [(0, 0, "swap", 1)], 0), ["cac"])

    def test_both_kinds_at_each_letter_with_all_and_with_great_numbers(self):
        chosen = random.Random(10)
        for code in (SMALL, FIVE, GREAT):
            length, m = len(code.weights()), len(code.alphabet())
            numbers = list(range(length * m)) + [10 ** 20 + k for k in range(length)] + [7 ** 1000, 10 ** 999]
            for _ in range(4):
                word = "".join(chosen.choices(code.alphabet(), k=length))
                made = set()
                for kind in ("letter", "swap"):
                    for number in numbers:
                        came = garbled(code, [word], [(0, 0, kind, number)], 0)
                        self.assertEqual(came, [plainly_garbled(code, word, kind, number)])
                        made.add(came[0])
                # The numbers reach all faults there are, and no other words.
                self.assertEqual(made - {word}, set(faulty(code, word)))

    def test_each_place_by_its_own_faults(self):
        words = ["exil", "kkkk", "lixe", "exil"]
        faults = [(0, 3, "letter", 5), (0, 0, "swap", 2), (0, 2, "letter", 0)]
        self.assertEqual(garbled(FIVE, words, faults, 0), ["exli", "kkkk", "kixe", "elil"])

    def test_several_of_one_sending_and_place(self):
        for faults, came in (
            ([(0, 0, "letter", 0), (0, 0, "letter", 1), (0, 0, "swap", 0)], "aab"),
            ([(0, 0, "swap", 0), (0, 0, "letter", 0)], "acb"),
            ([(1, 0, "letter", 3), (0, 1, "letter", 3), (0, 0, "letter", 1), (0, 0, "letter", 1)], "cbb"),
        ):
            self.assertEqual(garbled(SMALL, ["cab"], faults, 0), [came])
        # A first one that does nothing counts all the same.
        self.assertEqual(garbled(SMALL, ["ccb"], [(0, 0, "swap", 0), (0, 0, "letter", 0)], 0), ["ccb"])

    def test_faults_of_other_sendings(self):
        faults = [(1, 0, "letter", 0), (2, 1, "swap", 0), (0, 1, "letter", 1)]
        self.assertEqual(garbled(SMALL, ["cab", "cab"], faults, 0), ["cab", "cbb"])
        self.assertEqual(garbled(SMALL, ["cab", "cab"], faults, 1), ["aab", "cab"])
        self.assertEqual(garbled(SMALL, ["cab", "cab"], faults, 2), ["cab", "acb"])
        self.assertEqual(garbled(SMALL, ["cab", "cab"], faults, 3), ["cab", "cab"])
        self.assertEqual(garbled(SMALL, ["cab"], [(10 ** 20, 0, "letter", 0)], 10 ** 20), ["aab"])

    def test_faults_of_places_that_are_not_sent(self):
        faults = [(0, 2, "letter", 0), (0, 10 ** 20, "swap", 0), (0, 1, "letter", 0)]
        self.assertEqual(garbled(SMALL, ["cab", "cab"], faults, 0), ["cab", "aab"])
        self.assertEqual(garbled(SMALL, ["cab"], faults, 0), ["cab"])

    def test_no_words_and_no_faults(self):
        self.assertEqual(garbled(SMALL, [], [(0, 0, "letter", 0)], 0), [])
        self.assertEqual(garbled(SMALL, [], [], 5), [])
        self.assertEqual(garbled(SMALL, ["cab", "bbb"], [], 0), ["cab", "bbb"])

    def test_what_is_told_and_handed_in_is_the_asker_s_own(self):
        words = ["cab", "aaa"]
        faults = [(0, 0, "letter", 0)]
        for given in (faults, []):
            kept = list(given)
            came = garbled(SMALL, words, given, 0)
            came.append("ccc")
            came[1] = "none"
            self.assertEqual(words, ["cab", "aaa"])
            self.assertEqual(given, kept)


class TestGotAcross(unittest.TestCase):
    def test_without_faults(self):
        for book in small_and_great_books():
            words = telegram(book, set_groups(book, "ship lost ab send coal"))
            self.assertEqual(got_across(book, words, []), (words, [words]))

    def test_told_by_hand(self):
        book = small_book(ENTRIES, weights=(1, 2, 1))
        words = telegram(book, [0, 1, 2])
        self.assertEqual(words, ["aaa", "abb", "acc", "cab"])
        faults = [
            (0, 1, "letter", 0), (0, 3, "swap", 0), (0, 2, "letter", 5),
            # In the second sending abb, acc and the check cab stand at 0, 1 and 2; in the third acc and cab.
            (1, 1, "swap", 0), (1, 2, "letter", 1), (1, 3, "letter", 0),
            (2, 0, "swap", 1), (2, 1, "letter", 3), (2, 2, "swap", 0), (4, 0, "letter", 0),
        ]
        self.assertEqual(got_across(book, words, faults), (
            words,
            [["aaa", "bbb", "acb", "acb"], ["abb", "cac", "cbb"], ["acc", "bab"], ["cab"]],
        ))

    def test_a_good_word_made_of_none(self):
        # A fault that does nothing asks for nothing.
        book = small_book([("phrase", "a")], weights=(1, 2, 1))
        words = telegram(book, [0, 0])
        self.assertEqual(words[0], "aaa")
        self.assertEqual(got_across(book, words, [(0, 0, "swap", 0), (0, 1, "swap", 1)]), (words, [words]))

    def check(self, book, words, faults):
        ended, sendings = got_across(book, words, faults)
        self.assertEqual(ended, words)
        self.assertIs(type(ended), list)
        self.assertIs(type(sendings), list)
        asked = list(range(len(words)))
        changed = 0
        for number, came in enumerate(sendings):
            sent = [words[at] for at in asked]
            self.assertEqual(came, garbled(book.code(), sent, faults, number))
            self.assertTrue(all(one == other or a_fault_apart(one, other) for one, other in zip(sent, came)))
            asked = [at for at, word in zip(asked, came) if word != words[at]]
            changed += sent != came
        self.assertEqual(asked, [])
        self.assertLessEqual(len(sendings), changed + 1)
        return len(sendings)

    def test_some_faults(self):
        chosen = random.Random(11)
        most = 0
        for book in small_and_great_books():
            for text in ("ship", "ship lost ab send coal", "aabb baba ship ab"):
                words = telegram(book, set_groups(book, text))
                for _ in range(60):
                    faults = [
                        (chosen.randrange(6), chosen.randrange(len(words) + 1), chosen.choice(("letter", "swap")),
                         chosen.choice((chosen.randrange(30), chosen.randrange(10 ** 30))))
                        for _ in range(chosen.randrange(40))
                    ]
                    most = max(most, self.check(book, words, faults))
                    self.assertEqual(readings(book, got_across(book, words, faults)[0]), [text])
        self.assertGreater(most, 3)

    def test_a_fault_in_each_of_many_sendings(self):
        book = small_and_great_books()[2]
        words = telegram(book, set_groups(book, "ship"))
        faults = [(sending, 0, "letter", sending) for sending in range(200)]
        self.assertEqual(self.check(book, words, faults), 201)
        self.assertEqual(len(got_across(book, words, faults[:50] + faults[51:])[1]), 51)

    def test_all_words_garbled_at_once(self):
        for book in small_and_great_books():
            words = telegram(book, set_groups(book, " ".join(["ab"] * 60)))
            faults = [(0, at, "letter", 31 * at) for at in range(len(words))]
            self.assertEqual(self.check(book, words, faults), 2)

    def test_what_is_told_and_handed_in_is_the_asker_s_own(self):
        book = small_book(ENTRIES)
        before = state(book)
        words = telegram(book, [0, 1])
        kept = list(words)
        faults = [(0, 0, "letter", 1), (1, 0, "letter", 2)]
        ended, sendings = got_across(book, words, faults)
        ended.clear()
        sendings[0].clear()
        sendings.pop()
        self.assertEqual(words, kept)
        self.assertEqual(faults, [(0, 0, "letter", 1), (1, 0, "letter", 2)])
        self.assertEqual(got_across(book, words, faults)[0], kept)
        self.assertEqual([len(came) for came in got_across(book, words, faults)[1]], [3, 1, 1])
        ended, sendings = got_across(book, words, [])
        ended.append("x")
        self.assertEqual(sendings, [kept])
        self.assertEqual(words, kept)
        self.assertEqual(state(book), before)


if __name__ == "__main__":
    unittest.main()
