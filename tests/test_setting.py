import random
import unittest

from cablehouse.saying import said
from cablehouse.setting import least_groups, set_groups
from plain import KINDS, small_book, state
from refusals import check_refused

SIXTY = " ".join(["ab"] * 60)
NO_TEXTS = (
    "", " ", " a", "a ", "a  b", "A", "a B", "a1", "a\n", "a\tb", "a-b", "?", "a" * 21, "b " + "a" * 21,
    " ".join(["a"] * 61), ["a"], ("a",), ["a", "b"], b"a", {"a"}, {"a": 1}, 7,
) + tuple(thing for thing in KINDS if thing != "end")


def least_by_walking(book, text):
    """The least numbers by walking letter by letter, group after group, breadth first."""
    words = text.split(" ")
    least = {0: 0}
    now, many = {(0, 0)}, 0
    seen = set(now)
    entries = [entry for _, entry in book.entries()]
    while now:
        many += 1
        behind = set()
        for at, letters in now:
            for entry in entries:
                behind |= {there for there in steps(words, at, letters, entry) if there not in seen}
        seen |= behind
        for at, letters in behind:
            if letters == 0:
                least.setdefault(at, many)
        now = behind
    return [least.get(at) for at in range(len(words) + 1)]


def steps(words, at, letters, entry):
    """Where a group leads from so many whole words and so many letters of the next one."""
    if entry[0] == "phrase" and letters == 0:
        phrase = entry[1].split(" ")
        return [(at + len(phrase), 0)] if words[at:at + len(phrase)] == phrase else []
    if entry[0] == "part" and at < len(words):
        return [(at, letters + len(entry[1]))] if words[at].startswith(entry[1], letters) else []
    if entry[0] == "end" and letters > 0:
        return [(at + 1, 0)] if letters == len(words[at]) else []
    return []


def some_book(chosen):
    """A book of a few phrases and parts over few letters, so that many ways cross."""
    entries = set()
    for _ in range(chosen.randint(0, 14)):
        phrase = " ".join("".join(chosen.choices("ab", k=chosen.randint(1, 3))) for _ in range(chosen.randint(1, 6)))
        part = "".join(chosen.choices("ab", k=chosen.randint(1, 6)))
        entries.add(chosen.choice((("phrase", phrase), ("part", part))))
    if chosen.random() < 0.8:
        entries.add(("end",))
    return small_book(sorted(entries))


def some_text(chosen, book):
    """A text of a few words, pieces of the book's phrases among them."""
    words = []
    phrases = [entry[1] for _, entry in book.entries() if entry[0] == "phrase"]
    for _ in range(chosen.randint(1, 6)):
        if phrases and chosen.random() < 0.5:
            words += chosen.choice(phrases).split(" ")
        else:
            words.append("".join(chosen.choices("ab", k=chosen.randint(1, 9))))
    return " ".join(words)


class TestLeastGroups(unittest.TestCase):
    def check(self, entries, text, least):
        book = small_book(entries)
        told = least_groups(book, text)
        self.assertEqual(told, least)
        self.assertIs(type(told), list)
        self.assertEqual(told, least_by_walking(book, text))

    def test_by_phrases(self):
        self.check([("phrase", "a")], "a", [0, 1])
        self.check([("phrase", "a")], "a a a", [0, 1, 2, 3])
        self.check([("phrase", "a b"), ("phrase", "a"), ("phrase", "b c")], "a b c", [0, 1, 1, 2])
        self.check([("phrase", "a b"), ("phrase", "b c")], "a b c", [0, None, 1, None])
        for many in range(1, 7):
            self.check([("phrase", " ".join("abcdef"[:many]))], " ".join("abcdef"[:many]), [0] + [None] * (many - 1) + [1])

    def test_the_longest_phrase_is_not_always_the_best(self):
        entries = [("phrase", "a b c"), ("phrase", "a"), ("phrase", "b c d e"), ("phrase", "d"), ("phrase", "e")]
        self.check(entries, "a b c d e", [0, 1, None, 1, 2, 2])

    def test_by_spelling(self):
        self.check([("part", "a"), ("end",)], "a", [0, 2])
        self.check([("part", "a"), ("part", "aa"), ("part", "aaa"), ("end",)], "aaaa", [0, 3])
        self.check([("part", "ab"), ("part", "abc"), ("part", "cdef"), ("part", "d"), ("part", "e"), ("part", "f"), ("end",)],
                   "abcdef", [0, 3])
        self.check([("part", "abcdef"), ("end",)], "abcdefabcdef abcdef", [0, 3, 5])
        self.check([("part", "a"), ("end",)], "a" * 20, [0, 21])
        self.check([("part", "a"), ("end",)], "ab a", [0, None, None])
        self.check([("part", "a")], "a", [0, None])
        self.check([("end",)], "a", [0, None])
        self.check([], "a b c", [0, None, None, None])

    def test_where_both_ways_cross(self):
        entries = [("phrase", "a b"), ("part", "a"), ("part", "c"), ("end",), ("phrase", "c a")]
        self.check(entries, "a b c a", [0, 2, 1, 3, 2])
        self.check(entries, "a c a b", [0, 2, 4, 3, 5])
        self.check([("phrase", "ab"), ("part", "ab"), ("end",), ("phrase", "ab ab")], "ab ab ab", [0, 1, 1, 2])

    def test_a_word_that_is_a_part_is_no_phrase(self):
        self.check([("phrase", "ab")], "abab", [0, None])
        self.check([("part", "ab"), ("phrase", "a"), ("phrase", "b")], "ab", [0, None])

    def test_against_walking(self):
        chosen = random.Random(5)
        for _ in range(400):
            book = some_book(chosen)
            text = some_text(chosen, book)
            with self.subTest(book=book.entries(), text=text):
                self.assertEqual(least_groups(book, text), least_by_walking(book, text))

    def test_sixty_words(self):
        self.check([("phrase", "ab")], SIXTY, list(range(61)))
        self.check([("part", "a"), ("part", "b"), ("end",)], SIXTY, list(range(0, 181, 3)))
        self.check([("phrase", "ab"), ("phrase", " ".join(["ab"] * 6))], SIXTY, [at // 6 + at % 6 for at in range(61)])
        self.check([("part", "t"), ("end",)], " ".join(["t" * 20] * 60), list(range(0, 61 * 21, 21)))

    def test_a_told_list_is_the_asker_s_own(self):
        book = small_book([("phrase", "a"), ("phrase", "b")])
        told = least_groups(book, "a b")
        groups = set_groups(book, "a b")
        told.clear()
        groups.append(7)
        self.assertEqual(least_groups(book, "a b"), [0, 1, 2])
        self.assertEqual(set_groups(book, "a b"), [0, 1])


class TestSetGroups(unittest.TestCase):
    def check_set(self, book, text):
        groups = set_groups(book, text)
        self.assertIs(type(groups), list)
        self.assertEqual(len(groups), least_groups(book, text)[-1])
        self.assertEqual(said(book, groups), text)

    def test_told_by_hand(self):
        book = small_book([("end",), ("part", "gh"), ("phrase", "ship lost"), ("phrase", "ship")])
        self.assertEqual(set_groups(book, "ship"), [3])
        self.assertEqual(set_groups(book, "ship lost ghgh ship"), [2, 1, 1, 0, 3])

    def test_against_walking(self):
        chosen = random.Random(6)
        counts = {True: 0, False: 0}
        for _ in range(500):
            book = some_book(chosen)
            text = some_text(chosen, book)
            least = least_by_walking(book, text)
            counts[least[-1] is None] += 1
            with self.subTest(book=book.entries(), text=text):
                if least[-1] is None:
                    refusal = check_refused(self, "NoSetting", set_groups, book, text)
                    self.assertEqual(refusal.at, max(at for at, many in enumerate(least) if many is not None))
                else:
                    self.check_set(book, text)
        self.assertGreater(min(counts.values()), 50)

    def test_sixty_words(self):
        for entries in (
            [("phrase", "ab")], [("part", "a"), ("part", "b"), ("end",)], [("phrase", " ".join(["ab"] * 6))],
            [("phrase", "ab ab"), ("phrase", " ".join(["ab"] * 5)), ("part", "ab"), ("end",)],
        ):
            self.check_set(small_book(entries), SIXTY)
        self.check_set(small_book([("part", "t"), ("end",)]), " ".join(["t" * 20] * 60))

    def test_what_is_handed_in_stays(self):
        book = small_book([("phrase", "a"), ("part", "b"), ("end",)])
        before = state(book)
        set_groups(book, "a b")
        least_groups(book, "a b c")
        check_refused(self, "NoSetting", set_groups, book, "a b c")
        check_refused(self, "NoText", set_groups, book, "")
        self.assertEqual(state(book), before)


class TestRefused(unittest.TestCase):
    def test_no_setting_tells_how_far(self):
        for entries, text, at in (
            ([], "a", 0),
            ([], SIXTY, 0),
            ([("phrase", "a")], "b a", 0),
            ([("phrase", "a")], "a b", 1),
            ([("phrase", "a b"), ("phrase", "b")], "a b c", 2),
            ([("phrase", "a"), ("phrase", "b c")], "a b d", 1),
            ([("phrase", "a"), ("part", "b")], "a b", 1),
            ([("phrase", "ab")], SIXTY + "c", 59),
            ([("phrase", "a b c"), ("phrase", "a")], "a b c d", 3),
            ([("part", "a"), ("end",)], "a aa ab a", 2),
        ):
            with self.subTest(entries=entries, text=text):
                refusal = check_refused(self, "NoSetting", set_groups, small_book(entries), text)
                self.assertEqual(refusal.at, at)
                self.assertIs(type(refusal.at), int)

    def test_no_text(self):
        book = small_book([("phrase", "a"), ("part", "a"), ("end",)])
        for thing in NO_TEXTS:
            with self.subTest(thing=thing):
                check_refused(self, "NoText", set_groups, book, thing)
                check_refused(self, "NoText", least_groups, book, thing)
                check_refused(self, "NoText", set_groups, small_book([]), thing)


if __name__ == "__main__":
    unittest.main()
