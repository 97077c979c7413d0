import unittest

from cablehouse.nets import Net
from plain import KINDS
from refusals import check_refused

TWELVE = ["a", "b", "cc", "abcdefgh", "e", "f", "g", "h", "i", "j", "k", "z"]


class TestNet(unittest.TestCase):
    def check_made(self, offices, with_book, lines):
        net = Net(list(offices), list(with_book), list(lines))
        self.assertEqual(net.offices(), offices)
        self.assertEqual(net.with_book(), with_book)
        self.assertEqual(net.lines(), lines)
        for told in (net.offices(), net.with_book(), net.lines()):
            self.assertIs(type(told), list)

    def test_offices(self):
        self.check_made(["a"], [], [])
        self.check_made(["abcdefgh"], ["abcdefgh"], [])
        self.check_made(["zz", "b", "a"], ["a", "zz"], [])
        self.check_made(TWELVE, TWELVE[::-1], [])
        self.check_made(["end", "plain", "code"], ["code"], [("plain", "code", 1, 2)])

    def test_lines(self):
        for plain in (None, 0, 1, 10 ** 9):
            for code in (None, 0, 1, 10 ** 9):
                self.check_made(["a", "b"], ["b"], [("a", "b", plain, code), ("b", "a", code, plain)])

    def test_several_lines_between_two_offices(self):
        self.check_made(["a", "b", "c"], [], [("a", "b", 1, 2), ("a", "b", 1, 2), ("b", "a", 1, 2), ("a", "b", 0, None)])

    def test_sixty_lines_and_one_more(self):
        lines = [("a", "b", at, None) for at in range(60)]
        self.check_made(["a", "b"], ["a"], lines)
        check_refused(self, "NoNet", Net, ["a", "b"], ["a"], lines + [("a", "b", 1, 1)])

    def test_what_is_told_is_the_asker_s_own(self):
        net = Net(["b", "a"], ["a"], [("a", "b", 1, 2)])
        for ask, before in ((net.offices, ["b", "a"]), (net.with_book, ["a"]), (net.lines, [("a", "b", 1, 2)])):
            told = ask()
            told.append("c")
            told[0] = "d"
            self.assertEqual(ask(), before)

    def test_what_was_handed_in_stays_and_may_be_changed_behind(self):
        offices, with_book, lines = ["b", "a"], ["a"], [("a", "b", 1, 2)]
        net = Net(offices, with_book, lines)
        self.assertEqual((offices, with_book, lines), (["b", "a"], ["a"], [("a", "b", 1, 2)]))
        offices.clear()
        with_book.append("b")
        lines[0] = None
        self.assertEqual((net.offices(), net.with_book(), net.lines()), (["b", "a"], ["a"], [("a", "b", 1, 2)]))

    def test_what_is_refused_stays(self):
        offices, with_book, lines = ["b", "a"], ["c"], [("a", "b", 1, 2)]
        check_refused(self, "NoNet", Net, offices, with_book, lines)
        self.assertEqual((offices, with_book, lines), (["b", "a"], ["c"], [("a", "b", 1, 2)]))


class TestNoNet(unittest.TestCase):
    def test_offices(self):
        for offices in (
            [], TWELVE + ["y"], ["a", "a"], ["a", "b", "a"], [""], ["a", ""], ["abcdefghi"], ["A"], ["aB"], ["a b"], ["a "],
            [" a"], ["a1"], ["a-b"], ["a\n"], ["\t"], ["a", None], ["a", 1], ["a", True], ["a", ["b"]], [["a"]], [("a",)],
            ["a", b"b"], ["a", {}], ["a", {1}], ("a",), ("a", "b"), {"a": 1}, {"a"}, "a", "ab", "", None, 1, True, iter(["a"]),
        ) + tuple(thing for thing in KINDS if thing != ["end"]):
            with self.subTest(offices=offices):
                check_refused(self, "NoNet", Net, offices, [], [])

    def test_each_length_of_a_name_and_each_number_of_offices(self):
        for many in range(1, 15):
            if many <= 8:
                Net(["a" * many], [], [])
            else:
                check_refused(self, "NoNet", Net, ["a" * many], [], [])
            names = [chr(ord("a") + at) for at in range(many)]
            if many <= 12:
                Net(names, names, [])
            else:
                check_refused(self, "NoNet", Net, names, [], [])

    def test_offices_with_the_book(self):
        for with_book in (
            ["c"], ["a", "c"], ["a", "a"], ["a", "b", "a"], [""], ["A"], [None], [1], [True], [["a"]], [("a",)], [{}], ["a", None],
            ("a",), {"a": 1}, {"a"}, "a", "ab", "", None, iter(["a"]),
        ) + tuple(thing for thing in KINDS if thing != []):
            with self.subTest(with_book=with_book):
                check_refused(self, "NoNet", Net, ["a", "b"], with_book, [])

    def test_lines(self):
        for line in (
            ("a", "a", 1, 1), ("a", "c", 1, 1), ("c", "a", 1, 1), ("", "a", 1, 1), ("a", "", 1, 1), ("A", "b", 1, 1),
            (None, "b", 1, 1), ("a", None, 1, 1), (1, "b", 1, 1), (["a"], "b", 1, 1), ("a", ["b"], 1, 1), ("a", {}, 1, 1),
            ("a", "b", -1, 1), ("a", "b", 1, -1), ("a", "b", 10 ** 9 + 1, 1), ("a", "b", 1, 10 ** 9 + 1),
            ("a", "b", 10 ** 900, 1), ("a", "b", 1, -(10 ** 900)), ("a", "b", True, 1), ("a", "b", 1, True),
            ("a", "b", False, 1), ("a", "b", 1, False), ("a", "b", 1.0, 1), ("a", "b", 1, 0.5), ("a", "b", "1", 1),
            ("a", "b", 1, "-"), ("a", "b", [1], 1), ("a", "b", 1, {}), (), ("a",), ("a", "b"), ("a", "b", 1),
            ("a", "b", 1, 1, 1), ("a", "b", None), ["a", "b", 1, 1], "ab11", {"a": "b"},
        ) + KINDS:
            with self.subTest(line=line):
                check_refused(self, "NoNet", Net, ["a", "b"], [], [line])
                check_refused(self, "NoNet", Net, ["a", "b"], [], [("a", "b", 1, 1), line])

    def test_things_that_are_no_list_of_lines(self):
        line = ("a", "b", 1, 1)
        for lines in ((line,), line, {line: 1}, {line}, iter([line])) + tuple(thing for thing in KINDS if thing != []):
            with self.subTest(lines=lines):
                check_refused(self, "NoNet", Net, ["a", "b"], [], lines)


if __name__ == "__main__":
    unittest.main()
