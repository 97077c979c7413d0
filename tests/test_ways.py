import random
import unittest

from cablehouse.nets import Net
from cablehouse.ways import prices, way
from plain import KINDS
from refusals import check_refused

FORMS = ("plain", "code")


def step_costs(net, p, g):
    """The least cost of one step between each two tuples that one leads between."""
    costs = {}

    def offer(one, other, cost):
        for ends in ((one, other), (other, one)):
            costs[ends] = min(cost, costs.get(ends, cost))

    for office in net.with_book():
        offer((office, "plain"), (office, "code"), 0)
    for one, other, plain, code in net.lines():
        if plain is not None:
            offer((one, "plain"), (other, "plain"), plain * p)
        if code is not None:
            offer((one, "code"), (other, "code"), code * g)
    return costs


def all_costs(net, first, p, g):
    """The least cost to each tuple by a search over all ways that go by no tuple twice."""
    costs = step_costs(net, p, g)
    least = {}

    def walk(trail, total):
        here = trail[-1]
        least[here] = min(total, least.get(here, total))
        for (one, other), cost in costs.items():
            if one == here and other not in trail:
                walk(trail + [other], total + cost)

    walk([(first, "plain")], 0)
    return least


def some_net(chosen, most=5):
    offices = chosen.sample(["b", "a", "zz", "ab", "c", "aa", "d", "e", "f", "gh"], chosen.randint(1, most))
    with_book = chosen.sample(offices, chosen.randint(0, len(offices)))
    lines = []
    if len(offices) > 1:
        for _ in range(chosen.randint(0, 7)):
            one, other = chosen.sample(offices, 2)
            lines.append((one, other, chosen.choice((None, 0, 1, 2, 5, 9)), chosen.choice((None, 0, 1, 2, 5, 9))))
    return Net(offices, with_book, lines)


def told(net):
    return (net.offices(), net.with_book(), net.lines())


class TestPrices(unittest.TestCase):
    def test_told_by_hand(self):
        net = Net(["b", "a", "c"], ["b", "c"], [("a", "b", 3, 1), ("b", "c", 4, 1), ("c", "a", None, 2)])
        found = prices(net, "a", 10, 2)
        self.assertEqual(list(found.items()), [
            (("a", "plain"), 0), (("a", "code"), 32), (("b", "plain"), 30), (("b", "code"), 30), (("c", "plain"), 32),
            (("c", "code"), 32),
        ])
        self.assertIs(type(found), dict)

    def test_names_in_the_order_of_texts(self):
        names = ["b", "ab", "a", "zz", "aa", "z", "abc"]
        net = Net(names, ["abc"], [(names[at], names[at + 1], 1, 1) for at in range(6)])
        self.assertEqual(
            list(prices(net, "zz", 1, 1)), [(name, form) for name in sorted(names) for form in FORMS])

    def test_only_what_can_be_come_to(self):
        net = Net(["a", "b", "c"], [], [("a", "b", 2, 1), ("b", "c", None, 0)])
        self.assertEqual(prices(net, "a", 3, 5), {("a", "plain"): 0, ("b", "plain"): 6})
        self.assertEqual(prices(net, "c", 3, 5), {("c", "plain"): 0})
        self.assertEqual(prices(Net(["a"], [], []), "a", 1, 1), {("a", "plain"): 0})
        self.assertEqual(list(prices(Net(["a"], ["a"], []), "a", 1, 1).items()), [(("a", "plain"), 0), (("a", "code"), 0)])

    def check_shown(self, net, first, p, g):
        """That prices are right by what stands ahead of each alone, as the promise words it."""
        found = prices(net, first, p, g)
        self.assertEqual(list(found), [
            (office, form) for office in sorted(net.offices()) for form in FORMS if (office, form) in found])
        self.assertEqual(found[(first, "plain")], 0)
        costs = step_costs(net, p, g)
        for (one, other), cost in costs.items():
            if one in found:
                self.assertIn(other, found)
                self.assertLessEqual(found[other], found[one] + cost)
        for there, price in found.items():
            if there != (first, "plain"):
                self.assertTrue(any(
                    other == there and one in found and found[one] + cost == price
                    for (one, other), cost in costs.items()))

    def test_against_a_search_over_all_ways(self):
        chosen = random.Random(12)
        for _ in range(250):
            net = some_net(chosen)
            p, g = chosen.randint(1, 9), chosen.randint(1, 9)
            for first in net.offices():
                self.assertEqual(prices(net, first, p, g), all_costs(net, first, p, g))
                self.check_shown(net, first, p, g)

    def test_great_nets_and_numbers(self):
        chosen = random.Random(13)
        names = [chr(ord("a") + at) * 8 for at in range(12)]
        for _ in range(20):
            lines = []
            for _ in range(60):
                one, other = chosen.sample(names, 2)
                lines.append((one, other, chosen.choice((None, chosen.randint(0, 10 ** 9))), chosen.randint(0, 10 ** 9)))
            net = Net(names, chosen.sample(names, 4), lines)
            self.check_shown(net, names[3], 10 ** 20, 10 ** 20 - 1)
            self.check_shown(net, names[5], 1, 10 ** 20)

    def test_what_is_told_and_handed_in_is_the_asker_s_own(self):
        net = Net(["a", "b"], ["a"], [("a", "b", 1, 2)])
        before = told(net)
        found = prices(net, "a", 1, 1)
        kept = dict(found)
        found.clear()
        self.assertEqual(prices(net, "a", 1, 1), kept)
        self.assertEqual(told(net), before)


class TestWay(unittest.TestCase):
    def check_way(self, net, first, last, p, g):
        """That a way goes by steps there are, at their sum, by no tuple twice, and is the cheapest."""
        found = way(net, first, last, p, g)
        price = prices(net, first, p, g).get((last, "plain"))
        if price is None:
            self.assertIsNone(found)
            return None
        self.assertIs(type(found), tuple)
        trail, cost = found
        self.assertIs(type(trail), list)
        self.assertEqual((trail[0], trail[-1]), ((first, "plain"), (last, "plain")))
        costs = step_costs(net, p, g)
        self.assertEqual(sum(costs[ends] for ends in zip(trail, trail[1:])), cost)
        self.assertEqual(len(set(trail)), len(trail))
        self.assertEqual(cost, price)
        return found

    def test_told_by_hand(self):
        net = Net(["a", "b", "c", "d"], ["b", "c"], [("a", "b", 3, 1), ("b", "c", 4, 1), ("c", "d", 5, None)])
        plain = [("a", "plain"), ("b", "plain"), ("c", "plain"), ("d", "plain")]
        coded = [
            ("a", "plain"), ("b", "plain"), ("b", "code"), ("c", "code"), ("c", "plain"), ("d", "plain")]
        self.assertEqual(way(net, "a", "d", 10, 39), (coded, 119))
        self.assertEqual(way(net, "a", "d", 10, 41), (plain, 120))
        self.assertEqual(way(net, "d", "a", 10, 39), (coded[::-1], 119))

    def test_a_way_that_comes_twice_to_an_office(self):
        net = Net(["a", "b", "c", "d"], ["c", "d"], [("a", "b", 1, 1), ("b", "c", 1, 1), ("b", "d", None, 1)])
        trail = [
            ("a", "plain"), ("b", "plain"), ("c", "plain"), ("c", "code"), ("b", "code"), ("d", "code"), ("d", "plain")]
        self.assertEqual(way(net, "a", "d", 2, 3), (trail, 10))

    def test_none_where_there_is_none(self):
        self.assertIsNone(way(Net(["a", "b"], ["a", "b"], []), "a", "b", 1, 1))
        self.assertIsNone(way(Net(["a", "b"], ["a", "b"], [("a", "b", None, None)]), "a", "b", 1, 1))
        self.assertIsNone(way(Net(["a", "b"], ["a"], [("a", "b", None, 1)]), "a", "b", 1, 1))
        self.assertIsNone(way(Net(["a", "b"], ["b"], [("a", "b", None, 1)]), "a", "b", 1, 1))
        self.assertEqual(
            way(Net(["a", "b"], ["b", "a"], [("a", "b", None, 1)]), "a", "b", 1, 1),
            ([("a", "plain"), ("a", "code"), ("b", "code"), ("b", "plain")], 1))

    def test_an_office_to_itself(self):
        for net in (
            Net(["a"], [], []), Net(["a", "b"], ["a", "b"], [("a", "b", 0, 0)]), Net(["a", "b"], ["a"], [("b", "a", 5, 5)]),
        ):
            self.assertEqual(way(net, "a", "a", 7, 9), ([("a", "plain")], 0))

    def test_costs_of_nought(self):
        chosen = random.Random(14)
        for _ in range(150):
            net = some_net(chosen)
            net = Net(net.offices(), net.with_book(), [(one, other, 0 if plain is not None else None, 0)
                                                       for one, other, plain, code in net.lines()])
            for first in net.offices():
                for last in net.offices():
                    found = self.check_way(net, first, last, 3, 4)
                    self.assertIn(found and found[1], (None, 0))

    def test_against_a_search_over_all_ways(self):
        chosen = random.Random(15)
        none = 0
        for _ in range(250):
            net = some_net(chosen)
            p, g = chosen.randint(1, 9), chosen.randint(1, 9)
            for first in net.offices():
                least = all_costs(net, first, p, g)
                for last in net.offices():
                    found = self.check_way(net, first, last, p, g)
                    self.assertEqual(found and found[1], least.get((last, "plain")))
                    none += found is None
        self.assertGreater(none, 50)

    def test_great_numbers_of_words(self):
        net = Net(["a", "b"], ["a", "b"], [("a", "b", 10 ** 9, 10 ** 9), ("a", "b", 10 ** 9 - 1, None)])
        self.assertEqual(self.check_way(net, "a", "b", 10 ** 20, 10 ** 20)[1], (10 ** 9 - 1) * 10 ** 20)
        self.assertEqual(self.check_way(net, "a", "b", 10 ** 20, 10 ** 20 - 10 ** 11 - 1)[1], 10 ** 9 * (10 ** 20 - 10 ** 11 - 1))
        self.assertEqual(self.check_way(net, "a", "b", 1, 10 ** 20)[1], 10 ** 9 - 1)
        self.assertEqual(self.check_way(net, "a", "b", 10 ** 20, 1)[1], 10 ** 9)

    def test_the_cheapest_of_several_lines(self):
        net = Net(["a", "b"], [], [("a", "b", 5, 0), ("b", "a", 2, 0), ("a", "b", None, 0), ("a", "b", 3, 0)])
        self.assertEqual(way(net, "a", "b", 10, 1), ([("a", "plain"), ("b", "plain")], 20))

    def test_what_is_told_and_handed_in_is_the_asker_s_own(self):
        net = Net(["a", "b"], ["a"], [("a", "b", 1, 2)])
        before = told(net)
        way(net, "a", "b", 1, 1)[0].clear()
        self.assertEqual(way(net, "a", "b", 1, 1), ([("a", "plain"), ("b", "plain")], 1))
        self.assertEqual(told(net), before)


class TestNoOffice(unittest.TestCase):
    def test_what_is_no_office(self):
        net = Net(["a", "b"], ["a"], [("a", "b", 1, 2)])
        before = told(net)
        things = ("c", "", "A", "ab", "a ", " a", "a\n", "plain", ["a"], ("a",), ("a", "plain"), {"a"}, {"a": 1}, b"a", 0)
        for thing in things + KINDS:
            with self.subTest(thing=thing):
                check_refused(self, "NoOffice", prices, net, thing, 1, 1)
                check_refused(self, "NoOffice", way, net, thing, "b", 1, 1)
                check_refused(self, "NoOffice", way, net, "a", thing, 1, 1)
                check_refused(self, "NoOffice", way, net, thing, thing, 1, 1)
        self.assertEqual(told(net), before)


if __name__ == "__main__":
    unittest.main()
