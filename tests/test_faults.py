import random
import unittest

from cablehouse.codes import Code
from cablehouse.faults import faulty, fitting, nearest
from plain import KINDS, a_fault_apart, plainly_good, words_of
from refusals import check_refused

SMALL = (
    Code("abc", [1, 2, 1], 0),
    Code("cab", [2, 1, 2, 1], 2),
    Code("exilk", [4, 2, 1], 3),
    Code("zyxwvut", [1, 3, 2], 6),
)
GREAT = Code("qwertyuiopasdfghjklzxcvbn", [1, 2, 1, 2, 24, 3, 4, 1], 17)


def good(code, word):
    return plainly_good(code.alphabet(), code.weights(), code.rest(), word)


def some_words(seed, many):
    chosen = random.Random(seed)
    return ["".join(chosen.choices(GREAT.alphabet(), k=8)) for _ in range(many)]


def in_order(code, words):
    return sorted(words, key=lambda word: [code.alphabet().index(letter) for letter in word])


def exchanged_at(word, at, other):
    return len(word) == len(other) and all((word[k] == other[k]) == (k != at) for k in range(len(word)))


class TestFaulty(unittest.TestCase):
    def test_told_by_hand(self):
        code = Code("cab", [1, 2, 1], 0)
        self.assertEqual(faulty(code, "cab"), ["ccb", "cac", "caa", "cba", "cbb", "acb", "aab", "bab"])
        self.assertEqual(faulty(code, "aaa"), ["caa", "aca", "aac", "aab", "aba", "baa"])
        self.assertEqual(faulty(code, "cca"), ["ccc", "ccb", "cac", "caa", "cba", "aca", "bca"])

    def test_all_words_of_small_codes(self):
        for code in SMALL:
            words = words_of(code.alphabet(), len(code.weights()))
            for word in words:
                told = faulty(code, word)
                self.assertEqual(told, [other for other in words if a_fault_apart(word, other)])
                self.assertIs(type(told), list)

    def test_words_of_a_great_code(self):
        for word in some_words(1, 40) + ["q" * 8, "n" * 8, "qqwweerr", "qwwwwwwq"] + [GREAT.word(k) for k in (0, 7 ** 9)]:
            told = faulty(GREAT, word)
            unlike = sum(one != other for one, other in zip(word, word[1:]))
            self.assertEqual(len(told), 8 * 24 + unlike)
            self.assertEqual(len(set(told)), len(told))
            self.assertTrue(all(a_fault_apart(word, other) for other in told))
            self.assertEqual(told, in_order(GREAT, told))

    def test_a_told_list_is_the_asker_s_own(self):
        code = SMALL[1]
        for ask in (faulty, nearest):
            told = ask(code, "cabb")
            again = ask(code, "cabb")
            before = list(told)
            told.append("none")
            told[0] = "other"
            self.assertEqual(again, before)
            self.assertEqual(ask(code, "cabb"), before)


class TestNearest(unittest.TestCase):
    def test_told_by_hand(self):
        code = Code("cab", [1, 2, 1], 0)
        # a is 1, b is 2: "caa" sums to 3, "cab" to 4, "aca" to 2.
        self.assertEqual(nearest(code, "caa"), [])
        self.assertEqual(nearest(code, "cab"), ["caa", "cbb", "acb", "bab"])
        self.assertEqual(nearest(code, "aca"), ["caa", "acb", "aac", "aba", "bca"])

    def test_just_the_good_ones_of_the_faulty_in_their_order(self):
        for code in SMALL:
            for word in words_of(code.alphabet(), len(code.weights())):
                self.assertEqual(nearest(code, word), [other for other in faulty(code, word) if good(code, other)])

    def test_a_good_word_has_none(self):
        for code in SMALL:
            for k in range(code.many()):
                self.assertEqual(nearest(code, code.word(k)), [])
        for k in (0, 1, 7 ** 9, 25 ** 7 - 1):
            self.assertEqual(nearest(GREAT, GREAT.word(k)), [])

    def check_counts(self, code, word):
        told = nearest(code, word)
        self.assertEqual(told, in_order(code, told))
        length = len(word)
        for at in range(length):
            self.assertEqual(sum(exchanged_at(word, at, other) for other in told), 1, (word, at))
        for at in range(length - 1):
            swapped = word[:at] + word[at + 1] + word[at] + word[at + 2:]
            self.assertLessEqual(told.count(swapped), 1)
            if word[at] != word[at + 1]:
                self.assertEqual(swapped in told, good(code, swapped))
        self.assertEqual(len(set(told)), len(told))
        self.assertLessEqual(len(told), 2 * length - 1)

    def test_another_word_has_one_for_each_place_and_at_most_one_for_two_neighbours(self):
        for code in SMALL:
            for word in words_of(code.alphabet(), len(code.weights())):
                if not good(code, word):
                    self.check_counts(code, word)
        for word in some_words(2, 60):
            if not good(GREAT, word):
                self.check_counts(GREAT, word)

    def test_the_word_that_a_fault_was_done_to_is_among_them(self):
        for k in (3, 25 ** 6, 11 ** 8 % 25 ** 7):
            word = GREAT.word(k)
            for other in faulty(GREAT, word):
                self.assertFalse(good(GREAT, other))
                self.assertIn(word, nearest(GREAT, other))


class TestNoWords(unittest.TestCase):
    def test_what_is_no_word_of_the_code(self):
        code = Code("cab", [1, 2, 1], 0)
        others = ("", "c", "ca", "cabc", "cabcab", "cad", "dca", "CAB", "caB", "ca ", " ca", "ca?", "???", "ca1", "ca\n")
        for thing in others + KINDS + (["c", "a", "b"], ("c", "a", "b"), {"cab"}, b"cab", 123):
            with self.subTest(thing=thing):
                check_refused(self, "NoWord", faulty, code, thing)
                check_refused(self, "NoWord", nearest, code, thing)

    def test_a_letter_that_another_alphabet_has(self):
        check_refused(self, "NoWord", faulty, GREAT, "qwertyum")
        check_refused(self, "NoWord", nearest, GREAT, "mqwertyu")
        self.assertEqual(len(faulty(GREAT, "qwertyun")), 8 * 24 + 7)

    def test_the_code_stays(self):
        code = Code("cab", [1, 2, 1], 0)
        before = [code.word(k) for k in range(9)]
        faulty(code, "cab")
        nearest(code, "cab")
        fitting(code, "c??")
        for ask in (faulty, nearest, fitting):
            check_refused(self, "NoWord", ask, code, "none")
        self.assertEqual((code.alphabet(), code.weights(), code.rest()), ("cab", [1, 2, 1], 0))
        self.assertEqual([code.word(k) for k in range(9)], before)


class TestFitting(unittest.TestCase):
    def test_told_by_hand(self):
        code = Code("cab", [1, 2, 1], 0)
        self.assertEqual(fitting(code, "ca?"), ["caa"])
        self.assertEqual(fitting(code, "?ab"), ["bab"])
        self.assertEqual(fitting(code, "?c?"), ["ccc", "acb", "bca"])
        self.assertEqual(fitting(code, "??c"), ["ccc", "aac", "bbc"])
        self.assertEqual(fitting(code, "???"), [code.word(k) for k in range(9)])

    def test_all_torn_words_of_small_codes(self):
        for code in SMALL:
            length = len(code.weights())
            words = [code.word(k) for k in range(code.many())]
            for torn in words_of(code.alphabet() + "?", length):
                gaps = torn.count("?")
                if not 1 <= gaps <= 3:
                    check_refused(self, "NoWord", fitting, code, torn)
                    continue
                told = fitting(code, torn)
                self.assertIs(type(told), list)
                self.assertEqual(len(told), len(code.alphabet()) ** (gaps - 1))
                self.assertEqual(told, [word for word in words if all(t in ("?", w) for t, w in zip(torn, word))])

    def test_torn_words_of_a_great_code(self):
        for word in some_words(3, 6):
            for gaps in ((0,), (7,), (3, 4), (0, 7), (0, 1, 2), (5, 6, 7), (0, 3, 7)):
                torn = "".join("?" if at in gaps else letter for at, letter in enumerate(word))
                told = fitting(GREAT, torn)
                self.assertEqual(len(set(told)), 25 ** (len(gaps) - 1))
                self.assertEqual(len(told), len(set(told)))
                self.assertEqual(told, in_order(GREAT, told))
                for fit in told:
                    self.assertTrue(good(GREAT, fit))
                    self.assertTrue(all(t in ("?", w) for t, w in zip(torn, fit)))

    def test_what_is_no_torn_word(self):
        code = Code("cab", [1, 2, 1, 2], 0)
        for thing in (
            "cabc", "????", "?????", "", "?", "??", "???", "ca?", "cab?c", "?cabc", "d???", "ca?d", "Ca??", "ca? ", " ca?",
            "ca?!", "ca?*", "ca?\n", "c.b?", ["c", "a", "b", "?"], ("c", "a", "b", "?"), b"cab?", 4,
        ) + KINDS:
            with self.subTest(thing=thing):
                check_refused(self, "NoWord", fitting, code, thing)

    def test_four_gaps_in_a_long_word(self):
        self.assertEqual(len(fitting(GREAT, "qwert???")), 625)
        check_refused(self, "NoWord", fitting, GREAT, "qwer????")
        check_refused(self, "NoWord", fitting, GREAT, "????????")
        check_refused(self, "NoWord", fitting, GREAT, "qwertyui")

    def test_a_told_list_is_the_asker_s_own(self):
        code = SMALL[0]
        told = fitting(code, "a??")
        before = list(told)
        told.clear()
        self.assertEqual(fitting(code, "a??"), before)


if __name__ == "__main__":
    unittest.main()
