import itertools
import math
import unittest

from cablehouse.weights import are_safe, first_safe, is_whole

ODD = range(3, 26, 2)
EVEN = range(4, 27, 2)


def plainly_safe(weights, m):
    """Safety by trying every divisor, as the promise words it."""
    asked = list(weights) + [abs(one - other) for one, other in itertools.pairwise(weights)]
    return not any(m % d == 0 and number % d == 0 for number in asked for d in range(2, m + 1))


def first_by_search(m, length, begun=()):
    """The first safe weights by walking all lists in order, unsafe beginnings cut off."""
    if len(begun) == length:
        return list(begun)
    for weight in range(m):
        if plainly_safe(begun + (weight,), m):
            found = first_by_search(m, length, begun + (weight,))
            if found is not None:
                return found
    return None


class TestIsWhole(unittest.TestCase):
    def test_whole_numbers(self):
        for thing in (0, 1, -1, 2, -17, 10 ** 999, -(10 ** 999)):
            self.assertIs(is_whole(thing), True)

    def test_truths_are_none(self):
        self.assertIs(is_whole(True), False)
        self.assertIs(is_whole(False), False)

    def test_things_of_other_kinds_are_none(self):
        for thing in (None, "", "1", 1.0, 0.5, float("nan"), 1j, b"1", [], [1], (), (1,), {}, {1: 1}, {1}, int, object()):
            with self.subTest(thing=thing):
                self.assertIs(is_whole(thing), False)


class TestAreSafe(unittest.TestCase):
    def test_told_by_hand(self):
        for weights, m, safe in (
            ([1, 2, 1], 3, True),
            ([2, 1, 2, 1, 2, 1, 2, 1], 3, True),
            ([1, 2, 2], 3, False),
            ([1, 3, 2], 5, True),
            ([4, 2, 1, 3], 5, True),
            ([1, 4, 2], 9, False),
            ([1, 2, 6], 9, False),
            ([1, 2, 4, 8], 15, True),
            ([1, 6, 7], 25, False),
            ([1, 24, 23], 25, True),
            ([2, 7, 4], 15, False),
        ):
            with self.subTest(weights=weights, m=m):
                self.assertIs(are_safe(weights, m), safe)

    def test_only_neighbours_are_compared(self):
        self.assertIs(are_safe([1, 2, 1], 9), True)
        self.assertIs(are_safe([1, 2, 4], 3 * 7), True)
        self.assertIs(are_safe([1, 4, 2], 3 * 7), False)

    def test_nought_is_never_safe(self):
        for m in range(3, 27):
            for at in range(3):
                weights = [1, 2, 1]
                weights[at] = 0
                with self.subTest(weights=weights, m=m):
                    self.assertIs(are_safe(weights, m), False)

    def test_like_neighbours_are_never_safe(self):
        for m in range(3, 27):
            for weights in ([1, 1, 2], [1, 2, 2], [2, 2, 2], [1, 2, 1, 1], [m - 1, m - 1, 1]):
                with self.subTest(weights=weights, m=m):
                    self.assertIs(are_safe(weights, m), False)

    def test_one_two_by_turns_is_safe_for_odd_numbers(self):
        for m in ODD:
            for length in range(3, 9):
                self.assertIs(are_safe(([1, 2] * 4)[:length], m), True)

    def test_none_are_safe_for_even_numbers(self):
        for m in EVEN:
            for weights in itertools.product(range(m) if m < 15 else range(1, m, 2), repeat=3):
                self.assertIs(are_safe(list(weights), m), False)

    def test_all_of_three_as_the_promise_words_it(self):
        for m in list(range(3, 12)) + [15, 21, 25, 26]:
            for weights in itertools.product(range(m), repeat=3):
                self.assertIs(are_safe(list(weights), m), plainly_safe(weights, m), (weights, m))

    def test_all_of_four_as_the_promise_words_it(self):
        for m in (3, 4, 5, 6, 9):
            for weights in itertools.product(range(m), repeat=4):
                self.assertIs(are_safe(list(weights), m), plainly_safe(weights, m), (weights, m))

    def test_what_is_handed_in_stays(self):
        for m in (5, 6):
            weights = [3, 1, 4, 0]
            are_safe(weights, m)
            self.assertEqual(weights, [3, 1, 4, 0])


class TestFirstSafe(unittest.TestCase):
    def test_none_for_even_numbers(self):
        for m in EVEN:
            for length in range(3, 9):
                self.assertIsNone(first_safe(m, length))

    def test_the_first_in_the_order_of_lists(self):
        for m in range(3, 27):
            for length in range(3, 9):
                with self.subTest(m=m, length=length):
                    self.assertEqual(first_safe(m, length), first_by_search(m, length))

    def test_told_by_hand(self):
        self.assertEqual(first_safe(3, 3), [1, 2, 1])
        self.assertEqual(first_safe(15, 8), [1, 2, 1, 2, 1, 2, 1, 2])
        self.assertEqual(first_safe(25, 5), [1, 2, 1, 2, 1])

    def test_it_is_safe_and_a_list_of_its_length(self):
        for m in ODD:
            for length in range(3, 9):
                weights = first_safe(m, length)
                self.assertIs(type(weights), list)
                self.assertEqual(len(weights), length)
                self.assertTrue(all(math.gcd(weight, m) == 1 for weight in weights))
                self.assertIs(are_safe(weights, m), True)

    def test_each_list_told_is_the_asker_s_own(self):
        told = first_safe(7, 4)
        again = first_safe(7, 4)
        told[0] = 6
        told.append(5)
        self.assertEqual(again, [1, 2, 1, 2])
        self.assertEqual(first_safe(7, 4), [1, 2, 1, 2])


if __name__ == "__main__":
    unittest.main()
