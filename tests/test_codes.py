import itertools
import unittest

from cablehouse.codes import Code, is_good, unsafe_pair
from cablehouse.weights import are_safe
from plain import a_fault_apart, plainly_good, words_of
from refusals import check_refused

THREE = "cab"
FOUR = "dbac"
FIVE = "exilk"
ODD_MOST = "qwertyuiopasdfghjklzxcvbn"
MOST = "mnbvcxzlkjhgfdsapoiuytrewq"
OTHER_KINDS = (None, True, False, 1.0, b"cab", ["c", "a", "b"], ("c", "a", "b"), {"c": 0}, {"cab"}, object(), str)


def has_unsafe_pair(alphabet, weights, rest):
    good = [word for word in words_of(alphabet, len(weights)) if plainly_good(alphabet, weights, rest, word)]
    return any(a_fault_apart(one, other) for one, other in itertools.combinations(good, 2))


class TestIsGood(unittest.TestCase):
    def test_told_by_hand(self):
        for alphabet, weights, rest, word, good in (
            (THREE, [1, 2, 1], 0, "ccc", True),
            (THREE, [1, 2, 1], 1, "ccc", False),
            (THREE, [1, 2, 1], 1, "acc", True),
            (THREE, [1, 2, 1], 2, "cac", True),
            (THREE, [1, 2, 1], 0, "aac", True),
            (THREE, [1, 2, 1], 0, "aab", False),
            (FOUR, [1, 3, 2], 1, "bcc", False),
            (FOUR, [1, 3, 2], 0, "bcc", True),
            (FOUR, [2, 2, 2], 1, "bac", False),
            (ODD_MOST, [1, 2, 1, 2], 3, "qwwq", True),
            (ODD_MOST, [1, 2, 1, 2], 24, "nqqq", True),
            (ODD_MOST, [1, 2, 1, 2], 23, "nqqq", False),
            (MOST, [25, 1, 0], 0, "qqm", True),
            (MOST, [25, 1, 0], 1, "mnq", True),
            (MOST, [25, 1, 0], 25, "nmq", True),
            (MOST, [25, 1, 0], 25, "mnq", False),
        ):
            with self.subTest(alphabet=alphabet, weights=weights, rest=rest, word=word):
                self.assertIs(is_good(alphabet, weights, rest, word), good)

    def test_nought_weighs_nothing(self):
        for letter in MOST:
            self.assertIs(is_good(MOST, [0, 0, 1], 5, letter + "n" + MOST[5]), True)
            self.assertIs(is_good(MOST, [0, 0, 0], 0, "q" + letter + "w"), True)
            self.assertIs(is_good(MOST, [0, 0, 0], 1, "q" + letter + "w"), False)

    def test_all_words_of_small_alphabets(self):
        for alphabet in (THREE, FOUR):
            m = len(alphabet)
            for weights in itertools.product(range(m), repeat=3):
                for rest in range(m):
                    for word in words_of(alphabet, 3):
                        self.assertIs(
                            is_good(alphabet, list(weights), rest, word),
                            plainly_good(alphabet, weights, rest, word),
                        )

    def test_each_last_letter_in_great_alphabets(self):
        for alphabet in (ODD_MOST, MOST):
            for weights in ([1, 2, 1, 2, 1, 2, 1, 2], [3, 0, 5, 5, 13, 2, 24, 7]):
                for letter in alphabet:
                    word = "treasur" + letter
                    for rest in range(len(alphabet)):
                        self.assertIs(
                            is_good(alphabet, weights, rest, word), plainly_good(alphabet, weights, rest, word)
                        )

    def test_what_is_handed_in_stays(self):
        weights = [1, 0, 2]
        is_good(THREE, weights, 1, "abc")
        self.assertEqual(weights, [1, 0, 2])


class TestUnsafePair(unittest.TestCase):
    def check_pair(self, alphabet, weights, rest):
        pair = unsafe_pair(alphabet, weights, rest)
        self.assertIs(type(pair), tuple)
        self.assertEqual(len(pair), 2)
        for word in pair:
            self.assertEqual(len(word), len(weights))
            self.assertTrue(plainly_good(alphabet, weights, rest, word), (weights, rest, pair))
        self.assertTrue(a_fault_apart(pair[0], pair[1]), (weights, rest, pair))

    def check_all(self, alphabet, length):
        m = len(alphabet)
        for weights in itertools.product(range(m), repeat=length):
            for rest in range(m):
                if has_unsafe_pair(alphabet, weights, rest):
                    self.check_pair(alphabet, list(weights), rest)
                else:
                    self.assertIsNone(unsafe_pair(alphabet, list(weights), rest), (weights, rest))

    def test_all_weights_and_rests_of_three_letters(self):
        self.check_all(THREE, 3)
        self.check_all(THREE, 4)

    def test_all_weights_and_rests_of_four_letters(self):
        self.check_all(FOUR, 3)

    def test_all_weights_and_rests_of_five_letters(self):
        self.check_all(FIVE, 3)

    def test_none_where_the_weights_are_safe(self):
        for rest in range(25):
            self.assertIsNone(unsafe_pair(ODD_MOST, [1, 2, 1, 2, 1, 2, 1, 2], rest))
            self.assertIsNone(unsafe_pair(ODD_MOST, [24, 3, 4], rest))

    def test_none_where_no_word_is_good(self):
        for alphabet, weights, rest in (
            (THREE, [0, 0, 0], 1),
            (FOUR, [2, 0, 2], 1),
            (FOUR, [2, 2, 2], 3),
            (ODD_MOST, [5, 10, 20, 0, 15], 3),
            (ODD_MOST, [5] * 8, 24),
            (MOST, [0] * 8, 25),
            (MOST, [2] * 8, 1),
            (MOST, [13, 0, 13], 12),
        ):
            with self.subTest(alphabet=alphabet, weights=weights, rest=rest):
                self.assertIsNone(unsafe_pair(alphabet, weights, rest))

    def test_pairs_by_a_letter_exchanged(self):
        for alphabet, weights in (
            (THREE, [1, 0, 1]),
            (ODD_MOST, [1, 5, 1]),
            (ODD_MOST, [1, 2, 1, 2, 1, 2, 1, 0]),
            (MOST, [13, 2, 13, 2]),
            (MOST, [1, 2, 1, 2, 1, 2, 1, 2]),
        ):
            for rest in range(len(alphabet)):
                with self.subTest(alphabet=alphabet, weights=weights, rest=rest):
                    self.check_pair(alphabet, weights, rest)

    def test_pairs_by_neighbours_alone(self):
        for alphabet, weights in (
            (THREE, [1, 1, 1]),
            (THREE, [1, 2, 2]),
            (ODD_MOST, [1, 6, 1]),
            (ODD_MOST, [1, 2, 1, 2, 1, 2, 4, 9]),
            (ODD_MOST, [7, 7, 1]),
            (MOST, [1, 3, 1]),
            (MOST, [25, 1, 25, 1, 25, 1, 25, 1]),
            (MOST, [5] * 8),
        ):
            for rest in range(len(alphabet)):
                with self.subTest(alphabet=alphabet, weights=weights, rest=rest):
                    self.check_pair(alphabet, weights, rest)

    def test_none_just_where_safe_or_no_good_word(self):
        for m in range(3, 27):
            alphabet = MOST[:m]
            for weights in ([1, 2, 1], [m - 1, 1, m - 1], [1, 2, 3], [1, 3, 2, 4 % m], [0, 1, 2], [2, 2, 1, 1, 2]):
                for rest in (0, 1, m - 1):
                    with self.subTest(m=m, weights=weights, rest=rest):
                        if are_safe([weight % m for weight in weights], m):
                            self.assertIsNone(unsafe_pair(alphabet, [weight % m for weight in weights], rest))
                        else:
                            self.check_pair(alphabet, [weight % m for weight in weights], rest)

    def test_what_is_handed_in_stays(self):
        for weights in ([1, 2, 1], [1, 1, 1], [0, 0, 0]):
            before = list(weights)
            unsafe_pair(THREE, weights, 1)
            self.assertEqual(weights, before)


class TestMakingCodes(unittest.TestCase):
    def test_what_a_code_tells(self):
        for alphabet, weights, rest in (
            (THREE, [1, 2, 1], 0),
            (THREE, [2, 1, 2, 1, 2, 1, 2, 1], 2),
            (FIVE, [4, 2, 1, 3], 4),
            (ODD_MOST, [24, 3, 4], 24),
        ):
            code = Code(alphabet, weights, rest)
            self.assertEqual(code.alphabet(), alphabet)
            self.assertEqual(code.weights(), weights)
            self.assertIs(type(code.weights()), list)
            self.assertEqual(code.rest(), rest)
            self.assertEqual(code.many(), len(alphabet) ** (len(weights) - 1))

    def test_no_alphabet(self):
        for alphabet in (
            "", "c", "ca", "caa", "cac", "abcab", "qwertyuiopasdfghjklzxcvbnq", MOST + "a", MOST + "A", MOST + MOST,
            "caB", "CAB", "ca1", "ca ", " ca", "c b", "ca-", "ca?", "cab\n", "\tca", "ca~", 3, 0, -1, 25,
        ) + OTHER_KINDS:
            with self.subTest(alphabet=alphabet):
                check_refused(self, "NoCode", Code, alphabet, [1, 2, 1], 0)

    def test_no_sign_but_a_small_letter_is_in_an_alphabet(self):
        for sign in [chr(number) for number in range(32, 127)] + ["\t", "\n"]:
            alphabet = "xy" + sign
            if sign in "abcdefghijklmnopqrstuvwz":
                self.assertEqual(Code(alphabet, [1, 2, 1], 0).alphabet(), alphabet)
            else:
                check_refused(self, "NoCode", Code, alphabet, [1, 2, 1], 0)

    def test_short_alphabets_with_weights_below_their_number(self):
        check_refused(self, "NoCode", Code, "", [], 0)
        check_refused(self, "NoCode", Code, "c", [0, 0, 0], 0)
        check_refused(self, "NoCode", Code, "ca", [1, 0, 1], 0)

    def test_no_weights(self):
        for weights in (
            [], [1], [1, 2], [1, 2, 1, 2, 1, 2, 1, 2, 1], [1, 2] * 10, [1, 2, -1], [-1, 2, 1], [1, 5, 1], [6, 2, 1],
            [1, 2, 10 ** 900], [1, 2, -(10 ** 900)], [True, 2, 1], [1, 2, True], [1, 2, False], [1, 2, None],
            [1, 2, "1"], [1, 2, 1.0], [1, 2, [1]], (1, 2, 1), "121", {1: 1, 2: 2, 3: 1}, {1, 2, 3}, range(1, 4), 121,
        ) + OTHER_KINDS:
            with self.subTest(weights=weights):
                check_refused(self, "NoCode", Code, FIVE, weights, 0)

    def test_no_rest(self):
        for rest in (-1, 5, 6, 25, 10 ** 900, -(10 ** 900), "0", "", [0], (), 0.0) + OTHER_KINDS:
            with self.subTest(rest=rest):
                check_refused(self, "NoCode", Code, FIVE, [1, 2, 1], rest)

    def test_bounds_are_those_of_the_alphabet(self):
        for m in range(3, 27, 2):
            alphabet = MOST[:m]
            Code(alphabet, [1, 2, 1], m - 1)
            Code(alphabet, [m - 1, m - 2, m - 1], 0)
            check_refused(self, "NoCode", Code, alphabet, [1, 2, 1], m)
            check_refused(self, "NoCode", Code, alphabet, [m + 1, m + 2, m + 1], 0)

    def test_weights_that_are_not_safe(self):
        for alphabet, weights in (
            (THREE, [1, 0, 1]),
            (THREE, [1, 2, 2]),
            (THREE, [1, 1, 2]),
            (FIVE, [0, 1, 2]),
            (FIVE, [1, 2, 0]),
            (ODD_MOST, [1, 5, 1]),
            (ODD_MOST, [1, 6, 1]),
            (FOUR, [1, 3, 1]),
            (FOUR, [1, 2, 1]),
            (MOST, [1, 2, 1]),
        ):
            with self.subTest(alphabet=alphabet, weights=weights):
                check_refused(self, "NoCode", Code, alphabet, weights, 0)

    def test_safe_weights_make_a_code_and_no_others(self):
        for alphabet in (THREE, FOUR, FIVE):
            m = len(alphabet)
            for weights in itertools.product(range(m), repeat=3):
                if are_safe(list(weights), m):
                    self.assertEqual(Code(alphabet, list(weights), 1).weights(), list(weights))
                else:
                    check_refused(self, "NoCode", Code, alphabet, list(weights), 1)

    def test_weights_handed_in_stay_and_may_be_changed_behind(self):
        weights = [4, 2, 1]
        code = Code(FIVE, weights, 3)
        words = [code.word(k) for k in range(code.many())]
        self.assertEqual(weights, [4, 2, 1])
        weights[0] = 0
        weights.append(3)
        self.assertEqual(code.weights(), [4, 2, 1])
        self.assertEqual([code.word(k) for k in range(code.many())], words)

    def test_weights_refused_stay(self):
        for weights in ([1, 0, 1], [1, 2], [1, 2, 7]):
            before = list(weights)
            check_refused(self, "NoCode", Code, FIVE, weights, 3)
            self.assertEqual(weights, before)

    def test_weights_told_may_be_changed_behind(self):
        code = Code(FIVE, [4, 2, 1], 3)
        told = code.weights()
        again = code.weights()
        words = [code.word(k) for k in range(code.many())]
        told[0] = 0
        told.clear()
        self.assertEqual(again, [4, 2, 1])
        self.assertEqual(code.weights(), [4, 2, 1])
        self.assertEqual(code.many(), 25)
        self.assertEqual([code.word(k) for k in range(code.many())], words)

    def test_codes_do_not_share_anything(self):
        weights = [1, 2, 1]
        one = Code(THREE, weights, 0)
        weights.append(2)
        other = Code("xyz", weights, 2)
        self.assertEqual((one.alphabet(), one.weights(), one.rest()), (THREE, [1, 2, 1], 0))
        self.assertEqual((other.alphabet(), other.weights(), other.rest()), ("xyz", [1, 2, 1, 2], 2))


class TestNumberingWords(unittest.TestCase):
    def test_told_by_hand(self):
        code = Code(THREE, [1, 2, 1], 1)
        self.assertEqual(
            [code.word(k) for k in range(9)], ["cca", "cab", "cbc", "acc", "aaa", "abb", "bcb", "bac", "bba"]
        )

    def test_all_good_words_in_the_order_of_places(self):
        for alphabet, weights in (
            (THREE, [1, 2, 1]),
            (THREE, [2, 1, 2, 1, 2]),
            (THREE, [1, 2, 1, 2, 1, 2, 1, 2]),
            (FIVE, [4, 2, 1, 3]),
            ("vusrqponm", [1, 2, 7]),
        ):
            for rest in range(len(alphabet)):
                with self.subTest(alphabet=alphabet, weights=weights, rest=rest):
                    code = Code(alphabet, weights, rest)
                    words = words_of(alphabet, len(weights))
                    good = [word for word in words if plainly_good(alphabet, weights, rest, word)]
                    self.assertEqual(code.many(), len(good))
                    self.assertEqual([code.word(k) for k in range(len(good))], good)
                    self.assertEqual([code.number(word) for word in good], list(range(len(good))))
                    for word in words:
                        self.assertIs(code.has_good(word), plainly_good(alphabet, weights, rest, word))

    def test_first_last_and_between_in_a_great_code(self):
        weights = [1, 2, 1, 2, 1, 2, 1, 2]
        code = Code(ODD_MOST, weights, 7)
        self.assertEqual(code.many(), 25 ** 7)
        numbers = [0, 1, 24, 25, 626, 10 ** 6, 25 ** 6 - 1, 25 ** 6, 4 * 10 ** 9, 25 ** 7 - 2, 25 ** 7 - 1]
        words = [code.word(k) for k in numbers]
        for k, word in zip(numbers, words):
            self.assertTrue(plainly_good(ODD_MOST, weights, 7, word))
            self.assertEqual(code.number(word), k)
        self.assertTrue(words[0].startswith("qqqqqqq"))
        self.assertTrue(words[-1].startswith("nnnnnnn"))
        self.assertTrue(words[3].startswith("qqqqqwq"))
        placed = [[ODD_MOST.index(letter) for letter in word] for word in words]
        self.assertEqual(placed, sorted(placed))

    def test_no_two_good_words_are_a_fault_apart(self):
        for alphabet, weights in ((THREE, [1, 2, 1, 2]), (FIVE, [1, 3, 2])):
            for rest in range(len(alphabet)):
                code = Code(alphabet, weights, rest)
                words = [code.word(k) for k in range(code.many())]
                for one, other in itertools.combinations(words, 2):
                    self.assertFalse(a_fault_apart(one, other))

    def test_no_number(self):
        code = Code(THREE, [1, 2, 1], 1)
        for k in (-1, -9, 9, 10, 27, 10 ** 900, -(10 ** 900), "0", "", "cca", [0], (), 0.0, 1.5) + OTHER_KINDS:
            with self.subTest(k=k):
                check_refused(self, "NoNumber", code.word, k)

    def test_no_number_at_the_end_of_each_code(self):
        for m in range(3, 26, 2):
            code = Code(MOST[:m], [1, 2, 1, 2], 0)
            self.assertEqual(code.number(code.word(m ** 3 - 1)), m ** 3 - 1)
            check_refused(self, "NoNumber", code.word, m ** 3)
            check_refused(self, "NoNumber", code.word, -1)

    def test_no_word(self):
        code = Code(THREE, [1, 2, 1], 1)
        for word in (
            "ccc", "bbb", "", "c", "a", "cc", "ac", "ca", "ccac", "ccacca", "ccA", "CCA", "ccd", "dcc", "cc?", "cc ", " cca", "cca ",
            "cca\n", "c a", "cc1", 0, 1, -1, ["cca"], ("cca",), {"cca": 0}, b"cca",
        ) + OTHER_KINDS:
            with self.subTest(word=word):
                check_refused(self, "NoWord", code.number, word)
                self.assertIs(code.has_good(word), False)

    def test_lists_of_letters_are_no_words(self):
        code = Code(THREE, [1, 2, 1], 1)
        for word in (["c", "c", "a"], ("c", "c", "a"), {"c": 0, "a": 1, "b": 2}, [0, 0, 1]):
            check_refused(self, "NoWord", code.number, word)
            self.assertIs(code.has_good(word), False)

    def test_has_good_tells_truths(self):
        code = Code(THREE, [1, 2, 1], 1)
        self.assertIs(code.has_good("cca"), True)
        self.assertIs(code.has_good("aaa"), True)
        self.assertIs(code.has_good("aab"), False)

    def test_what_is_refused_changes_nothing(self):
        code = Code(THREE, [1, 2, 1], 1)
        before = [code.word(k) for k in range(9)]
        for k in (9, -1, True, None):
            check_refused(self, "NoNumber", code.word, k)
        for word in ("ccc", "cc", None, ["cca"]):
            check_refused(self, "NoWord", code.number, word)
        self.assertEqual((code.alphabet(), code.weights(), code.rest(), code.many()), (THREE, [1, 2, 1], 1, 9))
        self.assertEqual([code.word(k) for k in range(9)], before)


if __name__ == "__main__":
    unittest.main()
