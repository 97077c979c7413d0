import random
import unittest

from cablehouse.books import Book
from cablehouse.codes import Code
from cablehouse.editions import Editions
from cablehouse.errors import CableError, NoSetting, TooGarbled
from cablehouse.setting import set_groups
from cablehouse.telegrams import readings, telegram
from plain import KINDS, state
from refusals import check_kind, check_refused

A, B, C = ("phrase", "a"), ("phrase", "b"), ("part", "c")
END = ("end",)
NO_DAYS = (-1, 10 ** 9 + 1, 10 ** 900, "0", "1", [0], (0,)) + tuple(
    thing for thing in KINDS if type(thing) is not int)
NO_ENTRIES = (("phrase", ""), ("part", "abcdefg"), ("end", "a"), ["end"], "end", ("phrase", ["a"])) + KINDS


def editions(weights=(1, 2, 1)):
    return Editions(Code("abc", list(weights), 0))


def numbered(many):
    letters = "abcdefghijklmnopqrstuvwxyz"
    return [("part", one + two) for one in letters for two in letters][:many]


def all_told(made, days):
    return (made.last_day(), [state(made.book(day)) for day in days])


class Plain:
    """Editions told again from all their changes, by the words of the promise alone."""

    def __init__(self, many):
        self.many = many
        self.changes = []

    def standing(self, day=10 ** 9):
        found = {}
        for at, kind, number, entry in self.changes:
            if at <= day:
                if kind == "put":
                    found[number] = entry
                else:
                    found.pop(number)
        return found

    def is_free(self, day, entry, number):
        return number not in self.standing() and not any(
            kind == "strike" and number == other and day - at < 31 and entry != struck
            for at, kind, other, struck in self.changes)

    def put(self, day, entry, number):
        """The number, or the name of the refusal."""
        if self.changes and day < self.changes[-1][0]:
            return "NoDay"
        if entry in self.standing().values():
            return "Twice"
        free = [k for k in range(self.many) if self.is_free(day, entry, k)]
        if number is not None and number not in free:
            return "NoNumber"
        if not free or len(self.standing()) == 300:
            return "TooMany"
        number = free[0] if number is None else number
        self.changes.append((day, "put", number, entry))
        return number

    def strike(self, day, entry):
        if self.changes and day < self.changes[-1][0]:
            return "NoDay"
        for number, standing in self.standing().items():
            if standing == entry:
                self.changes.append((day, "strike", number, entry))
                return number
        return "NoEntry"


class TestChanges(unittest.TestCase):
    def test_new_editions(self):
        made = editions()
        self.assertEqual(made.last_day(), 0)
        for day in (0, 1, 10 ** 9):
            self.assertEqual(made.book(day).entries(), [])

    def test_put_and_strike(self):
        made = editions()
        self.assertEqual(made.put(0, A), 0)
        self.assertEqual(made.put(0, B, None), 1)
        self.assertEqual(made.put(3, C, 5), 5)
        self.assertEqual(made.put(3, END, number=8), 8)
        self.assertEqual(made.strike(3, B), 1)
        self.assertEqual(made.last_day(), 3)
        self.assertEqual(made.book(3).entries(), [(0, A), (5, C), (8, END)])

    def test_days_that_rise_or_stay(self):
        made = editions()
        for day, entry in ((0, A), (0, B), (7, C), (7, END), (10 ** 9, ("part", "d")), (10 ** 9, ("part", "e"))):
            made.put(day, entry)
            self.assertEqual(made.last_day(), day)
        self.assertEqual(made.strike(10 ** 9, A), 0)

    def test_no_day(self):
        made = editions()
        made.put(5, A, 3)
        before = all_told(made, range(8))
        for day in NO_DAYS + (4, 0):
            with self.subTest(day=day):
                check_refused(self, "NoDay", made.put, day, B)
                check_refused(self, "NoDay", made.put, day, B, 4)
                check_refused(self, "NoDay", made.strike, day, A)
        self.assertEqual(all_told(made, range(8)), before)
        self.assertEqual(made.put(5, B), 0)

    def test_no_day_is_ahead_of_all(self):
        made = editions()
        for at, entry in enumerate(numbered(9)):
            made.put(5, entry, at)
        for day in (4, -1, None, True):
            for entry in (None, "a", numbered(1)[0], A):
                for number in (None, 0, "x", 99):
                    check_refused(self, "NoDay", made.put, day, entry, number)
                check_refused(self, "NoDay", made.strike, day, entry)

    def test_refused_as_in_a_book(self):
        made = editions()
        made.put(2, A)
        before = all_told(made, range(4))
        for thing in NO_ENTRIES:
            with self.subTest(thing=thing):
                check_refused(self, "NoEntry", made.put, 2, thing)
                check_refused(self, "NoEntry", made.put, 3, thing, 0)
                check_refused(self, "NoEntry", made.strike, 3, thing)
        check_refused(self, "NoEntry", made.strike, 3, B)
        for number in (None, 0, 1, 99, "x"):
            check_refused(self, "Twice", made.put, 3, A, number)
        for number in (0, 9, -1, True, False, 1.0, "1", [1], (), {}):
            check_refused(self, "NoNumber", made.put, 3, B, number)
        # A refused change on a later day is no change.
        self.assertEqual(made.last_day(), 2)
        self.assertEqual(all_told(made, range(4)), before)

    def test_too_many(self):
        made = editions((1, 2, 1, 2, 1, 2, 1))
        for entry in numbered(300):
            made.put(1, entry)
        check_refused(self, "TooMany", made.put, 1, A)
        check_refused(self, "TooMany", made.put, 1, A, 500)
        check_refused(self, "NoNumber", made.put, 1, A, 299)
        check_refused(self, "Twice", made.put, 1, numbered(1)[0], 500)
        made.strike(1, numbered(300)[7])
        check_refused(self, "NoNumber", made.put, 1, A, 7)
        self.assertEqual(made.put(1, A), 300)
        check_refused(self, "TooMany", made.put, 1, B)
        # A number that is not free is told ahead of an entry too many.
        check_refused(self, "NoNumber", made.put, 31, B, 7)
        check_refused(self, "TooMany", made.put, 32, B, 7)

    def test_no_number_free(self):
        made = editions()
        for entry in numbered(9):
            made.put(0, entry)
        check_refused(self, "TooMany", made.put, 0, A)
        for entry in numbered(9)[2:5]:
            made.strike(4, entry)
        check_refused(self, "TooMany", made.put, 4, A)
        check_refused(self, "TooMany", made.put, 34, A)
        check_refused(self, "NoNumber", made.put, 34, A, 3)
        self.assertEqual(made.put(34, numbered(9)[3]), 3)
        self.assertEqual(made.put(35, A), 2)
        self.assertEqual(made.put(35, B), 4)


class TestNumbersStruckOut(unittest.TestCase):
    def struck(self):
        """Editions with A, B and C by 0, 1 and 2, of which B was struck out on day 100."""
        made = editions()
        for entry in (A, B, C):
            made.put(50, entry)
        made.strike(100, B)
        return made

    def test_for_another_entry(self):
        for behind in (0, 1, 29, 30):
            made = self.struck()
            check_refused(self, "NoNumber", made.put, 100 + behind, END, 1)
            self.assertEqual(made.put(100 + behind, END), 3)
        for behind in (31, 32, 1000, 10 ** 8):
            self.assertEqual(self.struck().put(100 + behind, END, 1), 1)
            self.assertEqual(self.struck().put(100 + behind, END), 1)

    def test_for_the_same_entry(self):
        for behind in (0, 1, 29, 30, 31, 1000):
            self.assertEqual(self.struck().put(100 + behind, B, 1), 1)
            self.assertEqual(self.struck().put(100 + behind, B), 1)
            self.assertEqual(self.struck().put(100 + behind, B, 7), 7)

    def test_the_same_entry_may_have_several(self):
        made = self.struck()
        made.put(100, B, 6)
        made.strike(101, B)
        check_refused(self, "NoNumber", made.put, 101, END, 6)
        check_refused(self, "NoNumber", made.put, 101, END, 1)
        self.assertEqual(made.put(101, B, 6), 6)
        made.strike(101, B)
        self.assertEqual(made.put(101, B), 1)

    def test_the_last_strike_counts(self):
        made = self.struck()
        made.put(120, B, 1)
        made.strike(121, B)
        check_refused(self, "NoNumber", made.put, 131, END, 1)
        check_refused(self, "NoNumber", made.put, 151, END, 1)
        self.assertEqual(made.put(152, END, 1), 1)
        made.strike(152, END)
        # By now the number is kept for the end, not for what stood there first.
        check_refused(self, "NoNumber", made.put, 182, B, 1)
        self.assertEqual(made.put(182, B), 3)
        self.assertEqual(made.put(182, END), 1)

    def test_struck_out_and_put_in_on_one_day(self):
        made = editions()
        self.assertEqual([made.put(9, A), made.strike(9, A), made.put(9, B), made.strike(9, B), made.put(9, C)], [0, 0, 1, 1, 2])
        self.assertEqual([made.put(9, A), made.put(9, B)], [0, 1])
        self.assertEqual(made.book(9).entries(), [(0, A), (1, B), (2, C)])

    def test_some_changes_against_the_promise(self):
        entries = numbered(8) + [A, B, C, END]
        refused = {}
        for seed in range(40):
            chosen = random.Random(seed)
            made, plain = editions(), Plain(9)
            day = 0
            for _ in range(70):
                day += chosen.choice((0, 0, 0, 1, 1, 5, 30, 31))
                told_day = day - chosen.choice((0, 0, 0, 0, 0, 0, 0, 0, 1)) if day else day
                entry = chosen.choice(entries)
                number = chosen.choice((None, None, chosen.randrange(9)))
                if chosen.random() < 0.6:
                    told, asked = plain.put(told_day, entry, number), (made.put, told_day, entry, number)
                else:
                    told, asked = plain.strike(told_day, entry), (made.strike, told_day, entry)
                if isinstance(told, str):
                    refused[told] = refused.get(told, 0) + 1
                    check_refused(self, told, *asked)
                else:
                    self.assertEqual(asked[0](*asked[1:]), told)
                self.assertEqual(made.last_day(), plain.changes[-1][0] if plain.changes else 0)
            for asked_day in range(0, day + 3, 7):
                self.assertEqual(made.book(asked_day).entries(), sorted(plain.standing(asked_day).items()))
        self.assertEqual(sorted(refused), ["NoDay", "NoEntry", "NoNumber", "TooMany", "Twice"])


class TestBookOfADay(unittest.TestCase):
    def made(self):
        made = editions()
        made.put(2, A)
        made.put(4, B)
        made.strike(6, A)
        made.put(6, C)
        made.strike(6, C)
        made.put(40, END, 0)
        return made

    def test_days_before_between_and_behind(self):
        made = self.made()
        for day, entries in (
            (0, []), (1, []), (2, [(0, A)]), (3, [(0, A)]), (4, [(0, A), (1, B)]), (5, [(0, A), (1, B)]), (6, [(1, B)]),
            (7, [(1, B)]), (39, [(1, B)]), (40, [(0, END), (1, B)]), (41, [(0, END), (1, B)]), (10 ** 9, [(0, END), (1, B)]),
        ):
            with self.subTest(day=day):
                book = made.book(day)
                self.assertIs(type(book), Book)
                self.assertEqual(book.entries(), entries)
                self.assertEqual(book.code().alphabet(), "abc")
                for number, entry in entries:
                    self.assertEqual(book.entry(number), entry)
                    self.assertEqual(book.number(entry), number)

    def test_the_order_of_days_asked_does_not_count(self):
        made = self.made()
        days = list(range(42))
        found = {day: state(made.book(day)) for day in days}
        for day in reversed(days):
            self.assertEqual(state(made.book(day)), found[day])
        self.assertEqual(made.last_day(), 40)
        self.assertEqual(made.put(40, A), 2)

    def test_a_new_book_each_time_that_may_be_changed(self):
        made = self.made()
        one, other = made.book(40), made.book(40)
        one.strike(END)
        self.assertEqual(one.put(("part", "new")), 0)
        one.put(A, 5)
        self.assertEqual(other.entries(), [(0, END), (1, B)])
        self.assertEqual(made.book(40).entries(), [(0, END), (1, B)])
        self.assertEqual(made.strike(40, B), 1)
        self.assertEqual(other.entries(), [(0, END), (1, B)])
        check_refused(self, "Twice", made.put, 40, END)

    def test_a_changed_book_does_not_change_what_is_free(self):
        made = editions()
        made.book(0).put(A, 0)
        self.assertEqual(made.put(0, A), 0)
        made.book(0).strike(A)
        self.assertEqual(made.strike(0, A), 0)

    def test_no_day(self):
        made = self.made()
        for day in NO_DAYS:
            with self.subTest(day=day):
                check_refused(self, "NoDay", made.book, day)

    def test_editions_share_nothing(self):
        code = Code("abc", [1, 2, 1], 0)
        one, other = Editions(code), Editions(code)
        one.put(5, A)
        one.strike(5, A)
        self.assertEqual(other.last_day(), 0)
        self.assertEqual(other.put(0, B), 0)
        self.assertEqual(one.book(9).entries(), [])


class TestLateTelegrams(unittest.TestCase):
    def test_told_by_hand(self):
        made = editions((1, 2, 1, 2))
        made.put(0, A)
        made.put(0, B)
        book = made.book(10)
        words = telegram(book, set_groups(book, "a b a"))
        self.assertEqual(readings(made.book(10), words), ["a b a"])
        made.strike(10, B)
        self.assertEqual(readings(made.book(10), words), [])
        self.assertEqual(made.put(40, C), 2)
        self.assertEqual(readings(made.book(40), words), [])
        made.put(40, B)
        self.assertEqual(readings(made.book(40), words), ["a b a"])
        made.strike(40, A)
        made.strike(40, B)
        refusal = check_refused(self, "TooGarbled", readings, made.book(40), words)
        self.assertEqual(refusal.places, [0, 1, 2])
        # Behind the thirty days another entry may come, and then another text may be read.
        made.put(71, ("phrase", "x"), 0)
        made.put(71, ("phrase", "y"), 1)
        self.assertEqual(readings(made.book(71), words), ["x y x"])

    def test_never_another_text(self):
        entries = [("phrase", name) for name in ("a", "b", "c", "d", "ab", "ba", "a b", "b a", "c d")] + [
            ("part", "a"), ("part", "b"), ("part", "ab"), END]
        kinds = {"text": 0, "none": 0, "garbled": 0}
        for seed in range(60):
            chosen = random.Random(seed)
            made = editions()
            sent = []
            day = 0
            for _ in range(60):
                day += chosen.choice((0, 0, 1, 2, 9))
                try:
                    if chosen.random() < 0.6:
                        made.put(day, chosen.choice(entries), chosen.choice((None, chosen.randrange(9))))
                    else:
                        made.strike(day, chosen.choice(entries))
                except CableError:
                    pass
                text = " ".join(chosen.choices(["a", "b", "c", "d", "ab", "ba"], k=chosen.randint(1, 4)))
                book = made.book(day)
                try:
                    sent.append((day, text, telegram(book, set_groups(book, text))))
                except NoSetting:
                    pass
                for set_on, text, words in sent:
                    if day - set_on <= 30:
                        kinds[self.read_late(made.book(day), text, words)] += 1
        self.assertGreater(min(kinds.values()), 50)

    def read_late(self, book, text, words):
        """How a late telegram is read: to its text, to none, or too garbled."""
        try:
            told = readings(book, words)
        except TooGarbled as refusal:
            check_kind(self, refusal, "TooGarbled")
            return "garbled"
        self.assertIn(told, ([text], []))
        return "text" if told else "none"


if __name__ == "__main__":
    unittest.main()
