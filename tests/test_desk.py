import itertools
import unittest

from cablehouse.books import Book
from cablehouse.codes import Code
from cablehouse.desk import Desk
from cablehouse.errors import CableError
from cablehouse.faults import faulty, nearest
from cablehouse.nets import Net
from cablehouse.setting import set_groups
from cablehouse.telegrams import readings, telegram
from cablehouse.ways import prices
from plain import KINDS, words_of
from refusals import check_refused

CODE_ROW = "code cab 1,2,1,2 0"
CODE = Code("cab", [1, 2, 1, 2], 0)
TWENTY = "abcdefghijklmnopqrst"
NET_ROW = "net a,b,c b,c a-b:3:1 b-c:4:1"
SETUP = (CODE_ROW, "day 7", "phrase ship", "phrase ship lost", "part ab", "end", NET_ROW)


def desk(*rows):
    made = Desk()
    for row in rows:
        made.say(row)
    return made


def same_book():
    """The book that the entries of SETUP make."""
    book = Book(CODE)
    for entry in (("phrase", "ship"), ("phrase", "ship lost"), ("part", "ab"), ("end",)):
        book.put(entry)
    return book


def answers(made):
    """What a desk answers to rows that change nothing, to be compared behind a refusal."""
    found = []
    for row in (
        "send ship", "send ship lost abab", "send x", "near caaa", "way a c ship ship", "way a b ship lost abab",
        "read cccc caaa", "read " + " ".join([CODE.word(1), CODE.word(2)]),
    ):
        try:
            found.append(made.say(row))
        except CableError as refusal:
            found.append(type(refusal))
    return found


class DeskCase(unittest.TestCase):
    def check_refused(self, name, row, rows=SETUP):
        """That a row is refused behind other rows, and changes nothing."""
        made = desk(*rows)
        before = answers(made)
        with self.subTest(row=row):
            refusal = check_refused(self, name, made.say, row)
            self.assertEqual(answers(made), before)
        return refusal


class TestSettingUp(DeskCase):
    def test_code(self):
        for row in (CODE_ROW, "code abc 1,2,1 2", "code qwertyuiopasdfghjklzxcvbn 24,23,12,1,2,4,8,16 24", "code exilk 1,2,1 4"):
            self.assertEqual(Desk().say(row), "ok")

    def test_what_makes_no_code(self):
        for row in (
            "code ca 1,0,1 0", "code caa 1,2,1 0", "code CAB 1,2,1 0", "code ca1 1,2,1 0", "code cab 1,2 0", "code cab 1 0",
            "code cab 1,2,1,2,1,2,1,2,1 0", "code cab 1,1,1 0", "code cab 1,0,1 0", "code cab 1,2,4 0", "code cab 1,2,1 3",
            "code cab 1,2,1 999999999", "code cab 999999999,2,1 0", "code abcd 1,3,1 0", "code - 1,2,1 0",
        ):
            self.check_refused("NoCode", row)
            check_refused(self, "NoCode", Desk().say, row)

    def test_rows_of_no_code(self):
        for row in (
            "code", "code cab", "code cab 1,2,1", "code cab 1,2,1 0 0", "code cab 01,2,1 0", "code cab 1,2,1 00",
            "code cab 1,2,01 0", "code cab 1,2,1, 0", "code cab ,1,2,1 0", "code cab 1,,2,1 0", "code cab - 0", "code cab 1,2,1 -",
            "code cab 1,2,-1 0", "code cab 1,2,1 -1", "code cab +1,2,1 0", "code cab 1,2,1 1234567890", "code cab a,b,c 0",
            "code cab 1,2,1000000000 0", "code cab 1,2,1 x", "code cab 1;2;1 0", "code cab 1.0,2,1 0", "Code cab 1,2,1 0",
            "code cab 1, 2,1 0", "code cab 1,2,1 " + "9" * 5000,
        ):
            self.check_refused("NoRow", row)
            check_refused(self, "NoRow", Desk().say, row)

    def test_code_told_again_begins_all_anew(self):
        made = desk(*SETUP)
        made.say("drop phrase ship")
        self.assertEqual(made.say("code abc 1,2,1 0"), "ok")
        check_refused(self, "NoNet", made.say, "way a b ship")
        check_refused(self, "NoSetting", made.say, "send ship")
        self.assertEqual(made.say("day 0"), "ok")
        # Neither entries nor numbers struck out are left of what was.
        self.assertEqual(made.say("phrase new"), "aaa")
        check_refused(self, "NoEntry", made.say, "drop end")
        self.assertEqual(made.say("day 1"), "ok")
        made.say("end")
        check_refused(self, "NoDay", made.say, "day 0")

    def test_code_told_again_begins_on_day_0(self):
        made = desk(CODE_ROW, "day 50", CODE_ROW, "phrase a", "day 30", "drop phrase a")
        self.assertEqual(made.say("phrase b"), CODE.word(1))
        made = desk(CODE_ROW, "day 50", "phrase a", CODE_ROW, "phrase a")
        self.assertEqual(made.say("day 0"), "ok")

    def test_days(self):
        made = desk(CODE_ROW)
        for row in ("day 0", "day 5", "day 3", "day 999999999", "day 0"):
            self.assertEqual(made.say(row), "ok")
        made = desk(CODE_ROW, "day 5", "end", "day 9")
        self.assertEqual(made.say("day 5"), "ok")
        check_refused(self, "NoDay", made.say, "day 4")
        made.say("day 7")
        made.say("drop end")
        check_refused(self, "NoDay", made.say, "day 6")
        self.assertEqual(made.say("day 7"), "ok")
        self.check_refused("NoDay", "day 6")
        self.check_refused("NoDay", "day 0")

    def test_rows_of_no_day(self):
        for row in (
            "day", "day 1 2", "day 01", "day 00", "day 1234567890", "day 1000000000", "day -1", "day +1", "day 1.0", "day x", "day 1_0",
            "day 1,2", "Day 1", "day 0x1", "day 8\n", "day 8\t", "day " + "9" * 5000,
        ):
            self.check_refused("NoRow", row)

    def test_nets(self):
        for row in (
            "net a -", "net a a", "net abcdefgh -", "net a,b,c,d,e,f,g,h,i,j,k,l l,a", "net a,b - a-b:0:0", "net a,b a,b a-b:-:-",
            "net a,b - a-b:999999999:- b-a:-:999999999 a-b:1:1", "net a,b - " + " ".join(["a-b:1:2"] * 60),
        ):
            self.assertEqual(desk(*SETUP).say(row), "ok")
            self.assertEqual(desk(CODE_ROW).say(row), "ok")

    def test_what_makes_no_net(self):
        for row in (
            "net a,a -", "net a,,b -", "net a, -", "net ,a -", "net abcdefghi -", "net A -", "net a1 -", "net - -", "net a-b -",
            "net a,b c", "net a,b a,a", "net a,b a,", "net a,b a,-", "net a,b -,a", "net a,b --", "net a,b,c,d,e,f,g,h,i,j,k,l,m -",
            "net a,b - a-a:1:1", "net a,b - a-c:1:1", "net a,b - c-b:1:1", "net a,b - -b:1:1", "net a,b - a-:1:1", "net a,b - -:1:1",
            "net a,b - a--b:1:1", "net a,b - a-b-a:1:1", "net a,b - " + " ".join(["a-b:1:2"] * 61),
        ):
            self.check_refused("NoNet", row)

    def test_rows_of_no_net(self):
        for row in (
            "net", "net a", "net a,b - ab:1:1", "net a,b - a-b", "net a,b - a-b:1", "net a,b - a-b:1:1:1", "net a,b - a-b::1",
            "net a,b - a-b:1:", "net a,b - a-b:01:1", "net a,b - a-b:1:00", "net a,b - a-b:1234567890:1", "net a,b - a-b:1:1000000000",
            "net a,b - a-b:x:1", "net a,b - a-b:1:--", "net a,b - a-b:-1:1", "net a,b - ab:-:1", "net a,b - ab:1-:1", "net a,b - :-:-",
            "net a,b - a-b:1:1 x", "net a,b - a-b:1:1 a-b", "net a,b - -", "Net a -", "net a,b - a-b:1:1\n",
        ):
            self.check_refused("NoRow", row)

    def test_a_line_that_is_none_is_told_ahead_of_a_net_that_is_none(self):
        self.check_refused("NoRow", "net a,a - a-a:1")
        self.check_refused("NoRow", "net A b a-b:1:x")

    def test_a_net_takes_the_place_of_the_one_ahead(self):
        made = desk(*SETUP)
        made.say("net x,y - x-y:2:1")
        check_refused(self, "NoOffice", made.say, "way a b ship")
        self.assertEqual(made.say("way x y ship"), "x y : 2")


class TestEntries(DeskCase):
    def test_put_in_by_the_least_free_number(self):
        made = desk(CODE_ROW)
        rows = ("phrase ship", "phrase a b c d e f", "part abcdef", "end", "phrase end", "phrase " + TWENTY, "part end")
        for at, row in enumerate(rows):
            self.assertEqual(made.say(row), CODE.word(at))

    def test_dropped(self):
        made = desk(*SETUP)
        for row, number in (("drop end", 3), ("drop phrase ship lost", 1), ("drop part ab", 2), ("drop phrase ship", 0)):
            self.assertEqual(made.say(row), CODE.word(number))
            check_refused(self, "NoEntry", made.say, row)

    def test_numbers_struck_out_are_passed_over_for_thirty_days(self):
        made = desk(*SETUP)
        made.say("drop phrase ship lost")
        made.say("day 37")
        self.assertEqual(made.say("phrase new"), CODE.word(4))
        self.assertEqual(made.say("phrase ship lost"), CODE.word(1))
        made.say("drop phrase ship lost")
        made.say("day 68")
        self.assertEqual(made.say("phrase newer"), CODE.word(1))

    def test_no_entry(self):
        for words in (
            "phrase a b c d e f g", "phrase " + TWENTY + "u", "phrase A", "phrase ship1", "phrase ship -", "phrase a\tb", "phrase a\n",
            "part abcdefg", "part A", "part 1", "part -", "part a\n",
        ):
            self.check_refused("NoEntry", words)
            self.check_refused("NoEntry", "drop " + words)
        for words in ("phrase lost", "part a", "part ship", "phrase ab"):
            self.check_refused("NoEntry", "drop " + words)

    def test_twice_and_too_many(self):
        for row in ("phrase ship", "phrase ship lost", "part ab", "end"):
            self.check_refused("Twice", row)
        full = ["code cab 1,2,1 0"] + ["part " + word for word in words_of("abc", 2)]
        made = desk(*full)
        check_refused(self, "TooMany", made.say, "end")
        made.say("drop part cc")
        check_refused(self, "TooMany", made.say, "end")
        self.assertEqual(made.say("part cc"), "bbc")

    def test_300_entries(self):
        made = desk("code cab 1,2,1,2,1,2,1 0", *["part " + word for word in words_of("abcdefg", 3)[:300]])
        check_refused(self, "TooMany", made.say, "end")
        made.say("drop part aaa")
        made.say("end")

    def test_rows_of_no_entry(self):
        for row in (
            "phrase", "part", "part a b", "end a", "end end", "drop", "drop phrase", "drop part", "drop part a b", "drop end a",
            "drop ship", "drop drop end", "drop send ship", "drop code cab 1,2,1 0", "drop day 1", "Phrase a", "END", "drop END",
            "end\n", "phrases a", "put phrase a",
        ):
            self.check_refused("NoRow", row)


class TestSentAndRead(DeskCase):
    def test_send(self):
        made, book = desk(*SETUP), same_book()
        for text in ("ship", "ship lost", "ship lost ship abab ab", " ".join(["ship"] * 60), " ".join(["ab" * 10] * 60)):
            words = telegram(book, set_groups(book, text))
            self.assertEqual(made.say("send " + text).split(" "), words)
            self.assertEqual(made.say("read " + " ".join(words)), text)

    def test_send_refused(self):
        for row in ("send A", "send ship 1", "send " + TWENTY + "u", "send " + " ".join(["ship"] * 61), "send a-b", "send ship\n"):
            self.check_refused("NoText", row)
        for row, at in (("send x", 0), ("send ship x ship", 1), ("send ship lost lost", 2), ("send ship ab aba", 2)):
            self.assertEqual(self.check_refused("NoSetting", row).at, at)
        self.check_refused("NoRow", "send")

    def test_send_by_this_day_s_edition(self):
        made = desk(CODE_ROW, "day 5", "phrase ship", "day 6", "phrase lost")
        self.assertEqual(made.say("send ship lost"), " ".join(telegram_of(0, 1)))
        made.say("drop phrase lost")
        self.assertEqual(check_refused(self, "NoSetting", made.say, "send ship lost").at, 1)
        made.say("day 8")
        self.assertEqual(check_refused(self, "NoSetting", made.say, "send ship lost").at, 1)

    def test_read_with_faults(self):
        made, book = desk(*SETUP), same_book()
        words = telegram(book, set_groups(book, "ship lost abab ship"))
        found = set()
        for one, other in itertools.combinations(range(len(words)), 2):
            for first in faulty(CODE, words[one]):
                came = list(words)
                came[one] = first
                self.assertEqual(made.say("read " + " ".join(came)), "ship lost abab ship")
                for second in faulty(CODE, words[other])[::3]:
                    came[other] = second
                    told = made.say("read " + " ".join(came))
                    self.assertEqual(told, " / ".join(readings(book, came)))
                    self.assertIn("ship lost abab ship", told.split(" / "))
                    found.add(told.count("/"))
        self.assertGreater(len(found), 1)

    def test_read_none(self):
        made = desk(*SETUP)
        self.assertEqual(made.say("read " + " ".join([CODE.word(0), CODE.word(0)])), "none")
        self.assertEqual(made.say("read " + " ".join([CODE.word(9), CODE.word(10)])), "none")
        self.assertEqual(made.say("read " + " ".join([CODE.word(0)] * 1400)), "none")

    def test_read_refused(self):
        self.check_refused("NoWord", "read cccc")
        for words in ("cccc ccc", "cccc ccccc", "cccc dddd", "cccc CCCC", "cccc ?ccc", "none none", "cccc cccc\n"):
            self.check_refused("NoWord", "read " + words)
        self.check_refused("NoWord", "read " + " ".join(["cccc"] * 1401))
        self.check_refused("NoRow", "read")
        refusal = self.check_refused("TooGarbled", "read ccca cccc ccca ccca cccc")
        self.assertEqual(refusal.places, [0, 2, 3])

    def test_read_by_this_day_s_edition(self):
        made = desk(*SETUP)
        words = made.say("send ship")
        made.say("drop phrase ship")
        self.assertEqual(made.say("read " + words), "none")
        made.say("day 37")
        made.say("phrase other")
        self.assertEqual(made.say("read " + words), "none")
        made.say("day 38")
        self.assertEqual(made.say("phrase another"), CODE.word(0))
        self.assertEqual(made.say("read " + words), "another")

    def test_near(self):
        made = desk(CODE_ROW)
        for word in words_of("cab", 4):
            self.assertEqual(made.say("near " + word), " ".join(nearest(CODE, word)) or "none")
        self.assertEqual(made.say("near cccc"), "none")

    def test_near_refused(self):
        for row in ("near ccc", "near ccccc", "near dddd", "near CCCC", "near ccc?", "near none", "near cccc\n"):
            self.check_refused("NoWord", row)
        for row in ("near", "near cccc cccc", "Near cccc"):
            self.check_refused("NoRow", row)


def telegram_of(*groups):
    number = (sum(groups) + len(groups)) % CODE.many()
    return [CODE.word(group) for group in groups] + [CODE.word(number)]


class TestWays(DeskCase):
    def test_told_by_hand(self):
        made = desk(*SETUP)
        # "ship lost" has two words, its telegram two: a group and the check.
        self.assertEqual(made.say("way a c ship lost"), "a b c : 8")
        self.assertEqual(made.say("way c a ship lost"), "c b a : 8")
        self.assertEqual(made.say("way a b ship lost"), "a b : 6")
        # "ab" has one word, its telegram three.
        self.assertEqual(made.say("way a c ab"), "a b c : 6")
        self.assertEqual(made.say("way a a ab"), "a : 0")

    def test_an_office_where_it_is_turned_is_told_once(self):
        made = desk(*SETUP)
        made.say("net a,b,c,d b,d a-b:1:0 b-c:9:1 c-d:9:1 c-a:-:5")
        self.assertEqual(made.say("way a d ship lost ship lost"), "a b c d : 10")

    def test_an_office_that_is_come_to_twice_is_told_twice(self):
        made = desk(*SETUP)
        made.say("net a,b,c,d c,d a-b:1:1 b-c:1:1 b-d:-:1")
        self.assertEqual(made.say("way a d ship lost"), "a b c b d : 8")

    def test_none(self):
        made = desk(*SETUP)
        made.say("net a,b,c b b-a:-:1")
        self.assertEqual(made.say("way a b ship"), "none")
        self.assertEqual(made.say("way b c ship"), "none")
        self.assertEqual(made.say("way b b ship"), "b : 0")

    def test_costs_are_the_prices(self):
        made, book = desk(*SETUP), same_book()
        lines = [("a", "b", 7, 2), ("b", "c", 5, 3), ("c", "d", None, 4), ("d", "e", 6, 1), ("a", "e", 999999999, None)]
        net = Net(["a", "b", "c", "d", "e"], ["b", "d"], lines)
        made.say("net a,b,c,d,e b,d a-b:7:2 b-c:5:3 c-d:-:4 d-e:6:1 a-e:999999999:-")
        for text in ("ship", "ship lost", "ship lost ship lost ship lost", "ababab ab", " ".join(["ship"] * 60)):
            words = telegram(book, set_groups(book, text))
            for first in net.offices():
                found = prices(net, first, len(text.split()), len(words))
                for last in net.offices():
                    offices, cost = made.say(f"way {first} {last} {text}").split(" : ")
                    self.assertEqual(int(cost), found[(last, "plain")])
                    self.assertEqual((offices.split()[0], offices.split()[-1]), (first, last))

    def test_refused_in_order(self):
        without = SETUP[:-1]
        for text in ("ship", "x", "A"):
            self.check_refused("NoNet", "way a b " + text, without)
            self.check_refused("NoNet", "way x y " + text, without)
            for ends in ("x a", "a x", "x y", "A b", "a 1", "x x", "- a"):
                self.check_refused("NoOffice", f"way {ends} {text}")
        for ends in ("a b", "a a"):
            for text in ("A", "ship 1", TWENTY + "u", " ".join(["ship"] * 61), "x Y"):
                self.check_refused("NoText", f"way {ends} {text}")
            self.assertEqual(self.check_refused("NoSetting", f"way {ends} ship x").at, 1)

    def test_a_text_that_can_t_be_set_is_told_where_there_is_no_way(self):
        self.check_refused("NoSetting", "way a b x", SETUP[:-1] + ("net a,b -",))

    def test_rows_of_no_way(self):
        for row in ("way", "way a", "way a b", "Way a b ship", "ways a b ship"):
            self.check_refused("NoRow", row)
            self.check_refused("NoRow", row, SETUP[:-1])

    def test_by_this_day_s_edition(self):
        made = desk(*SETUP)
        made.say("drop phrase ship lost")
        check_refused(self, "NoSetting", made.say, "way a b ship lost")


class TestRows(DeskCase):
    def test_no_rows(self):
        for row in (
            "", " ", "  ", "x", "hello there", "ok", "none", "-", "\n", "\t", "code\tcab 1,2,1 0", "help", "desk", "CODE cab 1,2,1 0",
        ):
            self.check_refused("NoRow", row)
            check_refused(self, "NoRow", Desk().say, row)

    def test_things_that_are_no_texts(self):
        for thing in tuple(thing for thing in KINDS if thing != "end") + (
            ["end"], ("end",), b"end", CODE_ROW.encode(), CODE_ROW.split(" "), [CODE_ROW]):
            self.check_refused("NoRow", thing)
            check_refused(self, "NoRow", Desk().say, thing)

    def test_blanks_ahead_behind_and_doubled(self):
        for row in (
            CODE_ROW, "day 9", NET_ROW, "phrase new words", "part new", "drop phrase ship lost", "drop part ab", "drop end",
            "send ship lost", "read cccc caaa", "near cccc", "way a c ship lost", "end",
        ):
            self.check_refused("NoRow", " " + row)
            self.check_refused("NoRow", row + " ")
            for at, sign in enumerate(row):
                if sign == " ":
                    self.check_refused("NoRow", row[:at] + " " + row[at:])

    def test_all_rows_but_code_ahead_of_any_code(self):
        for row in (
            "day 0", "day 999999999", "net a -", "net a,a -", "net a,b - a-b:1:2", "phrase a", "phrase A", "part a", "part abcdefg",
            "end", "drop end", "drop phrase a", "send ship", "send A", "read aaa aaa", "read aaa", "near aaa", "way a b ship",
        ):
            made = Desk()
            check_refused(self, "NoCode", made.say, row)
            self.assertEqual(made.say(CODE_ROW), "ok")
            made = Desk()
            check_refused(self, "NoCode", made.say, "code cab 1,1,1 0")
            check_refused(self, "NoCode", made.say, row)

    def test_no_row_is_ahead_of_no_code(self):
        for row in (
            "day 01", "day", "net a", "net a,b - ab:1:2", "net a,b - a-b:1:x", "phrase", "part", "part a b", "end a", "drop", "send",
            "read", "near", "near a b", "way", "way a b", " day 0", "day 0 ", "day  0", "x",
        ):
            check_refused(self, "NoRow", Desk().say, row)

    def test_what_is_refused_ahead_of_a_code_changes_nothing(self):
        made = Desk()
        for row in ("day 9", "net a -", "phrase a", "end"):
            check_refused(self, "NoCode", made.say, row)
        made.say(CODE_ROW)
        check_refused(self, "NoNet", made.say, "way a a a")
        self.assertEqual(made.say("end"), CODE.word(0))
        self.assertEqual(made.say("phrase a"), CODE.word(1))
        self.assertEqual(made.say("day 0"), "ok")

    def test_a_code_refused_leaves_the_one_ahead(self):
        made = desk(*SETUP)
        before = answers(made)
        check_refused(self, "NoCode", made.say, "code abcd 1,3,1 0")
        self.assertEqual(answers(made), before)
        check_refused(self, "NoDay", made.say, "day 6")

    def test_desks_share_nothing(self):
        one, other = desk(*SETUP), Desk()
        check_refused(self, "NoCode", other.say, "day 0")
        other.say(CODE_ROW)
        self.assertEqual(other.say("end"), CODE.word(0))
        check_refused(self, "Twice", one.say, "end")

    def test_answers_are_texts(self):
        made = desk(*SETUP)
        for row in ("day 8", NET_ROW, "phrase q", "drop phrase q", "send ship", "read cccc cccc", "near cccc", "way a b ship"):
            self.assertIs(type(made.say(row)), str)


if __name__ == "__main__":
    unittest.main()
