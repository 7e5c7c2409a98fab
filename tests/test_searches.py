"""The searches behind verdicts and least weavings: each by itself shows the same, whatever the others would find."""

import random
import unittest
from unittest import mock

from tests import plain
from tests.making import changed, made
from tests.samples import LATE, LOOK, hoard, ladder, queue, reread, two_cells
from warmsteps.backward import Classes, least_of
from warmsteps.least import least_weaving, shortest
from warmsteps.nets import Net, Standings, meetings
from warmsteps.rows import numbers_in, told_rows
from warmsteps.rules import Rules
from warmsteps.settle import MANY_EVENTS, plain_rows, quick, settled_by, settled_slowly
from warmsteps.turns import SAME, Turns
from warmsteps.verdicts import is_rows, is_weaving, verdict
from warmsteps.walks import Walk, is_first_alike


def settled(net, most):
    """What the quick search shows, or the slow one where that has not ended."""
    flood = quick(net)
    return settled_slowly(net, most) if flood is None else settled_by(flood, most)


def claiming(number):
    """Rules of this number that claim much: hands are counted, and wait."""
    chance = random.Random(number)
    rules = chance.choice([hoard(), hoard(), queue(), ladder(3), ladder(4), Rules.careful(), reread()])
    for _ in range(chance.randint(1, 6)):
        rules = changed(chance, rules)
    return rules


def waiting():
    """Rules for a look that go wrong by two hands that wait behind a claim; each of them must come again ahead of it."""
    over = (("claim", 1, "c", "d", LATE), ("out",))
    return Rules(LOOK, {(1, "plain"): (("claim", 1, "plain", "a", LATE), ("claim", 1, "b", "c", over), ("do", 1),
                                       ("out",)),
                        (1, "a"): (("do", 1), ("word", 1, "plain"), ("word", 1, "b"), ("out",)),
                        (1, "b"): LATE, (1, "c"): LATE, (1, "d"): (("do", 1), ("do", 1), ("out",))})


class ForwardTest(unittest.TestCase):
    def check(self, rules, shapes, most, *, slowly=False):
        """The word of the search from the beginning; what it shows must show it."""
        word, shown = (settled_slowly if slowly else settled)(Net(rules, shapes), most)
        if word == "right":
            self.assertTrue(plain.is_right_list(rules, shapes, shown))
            self.assertTrue(is_rows(rules, shapes, shown))
        elif shown is not None:
            self.assertTrue(plain.is_wrong_weaving(rules, shapes, shown))
            self.assertTrue(is_weaving(rules, shapes, shown))
            hands = {event[0] for event in shown}
            self.assertEqual(hands, set(range(len(hands))))
        return word

    def test_many_rules(self):
        words = {"right": 0, "wrong": 0}
        for number in range(250):
            for rules in (made(number, changes=6), claiming(number)):
                shapes = 1 + number % 2
                word = self.check(rules, shapes, MANY_EVENTS)
                self.assertEqual(word, verdict(rules, shapes)[0])
                self.assertEqual(self.check(rules, shapes, 0), word)
                self.assertEqual(self.check(rules, shapes, MANY_EVENTS, slowly=True), word)
                self.assertEqual(self.check(rules, shapes, 0, slowly=True), word)
                words[word] += 1
        self.assertGreater(min(words.values()), 50)

    def test_in_depth_alone(self):
        with mock.patch("warmsteps.settle.MOST_IN_BREADTH", 1):
            for number in range(150):
                for rules in (made(number, changes=6), claiming(number)):
                    shapes = 1 + number % 2
                    self.assertEqual(self.check(rules, shapes, None, slowly=True), verdict(rules, shapes)[0])

    def test_hands_that_wait_in_a_claimed_state(self):
        for rules in (hoard(), waiting()):
            for shapes in (1, 2):
                self.assertEqual(self.check(rules, shapes, MANY_EVENTS), "wrong")
                with mock.patch("warmsteps.settle.MOST_IN_BREADTH", 1):
                    self.assertEqual(self.check(rules, shapes, None, slowly=True), "wrong")
            self.assertEqual(least_of(Classes(Net(rules, 1)), 3), plain.search(rules, 1, 3))
            self.assertIsNone(least_of(Classes(Net(rules, 1)), 2))

    def test_a_limit_of_events(self):
        self.assertEqual(settled(Net(ladder(6), 1), 0), ("wrong", None))
        word, weaving = settled(Net(ladder(6), 1), None)
        self.assertEqual(settled(Net(ladder(6), 1), len(weaving)), (word, weaving))

    def test_rows_that_count_nothing(self):
        self.assertIsNone(plain_rows(Net(Rules.hasty(), 2)))
        self.assertIsNone(plain_rows(Net(ladder(5), 1)))
        for rules in (two_cells(), Rules.plain(LOOK), Rules.plain(("add", "tell"))):
            net = Net(rules, 2)
            rows = told_rows(net, plain_rows(net))
            self.assertTrue(plain.is_right_list(rules, 2, rows))
            self.assertEqual(len({row[0] for row in rows}), len(rows))
            self.assertEqual({row[2] for row in rows}, {()})


class LeastTest(unittest.TestCase):
    def test_from_the_beginning_and_back(self):
        """Both searches find the same weaving, the first one of the shortest."""
        found = 0
        for number in range(200):
            for rules in (made(number, changes=6), claiming(number)):
                net = Net(rules, 1 + number % 3)
                for hands in (1, 2):
                    walk = Walk(net, hands)
                    self.assertTrue(walk.run(10**6))
                    self.assertEqual(walk.weaving(), least_of(Classes(net), hands), (number, hands))
                    found += walk.weaving() is not None
        self.assertGreater(found, 100)

    def test_the_first_of_the_shapes_that_are_alike(self):
        """Those that are there, and the first one of the others; hands without a shape come always."""
        for had, expected in (((), [1]), ((1,), [1, 2]), ((2,), [1, 2]), ((3,), [1, 3]), ((1, 2), [1, 2, 3]),
                              ((1, 3), [1, 2, 3]), ((2, 3), [1, 2, 3]), ((1, 2, 3), [1, 2, 3])):
            for none in (0, 1):
                bits = sum(1 << shape for shape in had) + none
                self.assertEqual([own for own in (1, 2, 3) if is_first_alike(own, bits)], expected)
                self.assertTrue(is_first_alike(0, bits))

    def test_a_walk_that_is_too_long(self):
        self.assertFalse(Walk(Net(Rules.careful(), 2), 2).run(20))
        with mock.patch("warmsteps.fewest.MOST_STEPS", 5):
            self.assertEqual(least_weaving(Rules.hasty(), 2), plain.search(Rules.hasty(), 2, 2))
            self.assertIsNone(shortest(Rules.careful(), 2, 2))

    def test_where_all_rows_would_be_too_many(self):
        """What is told is the same where the quick search is not quick enough."""
        known = [(made(number, changes=6), 1 + number % 3) for number in range(60)]
        told = [(verdict(*case)[0], least_weaving(*case), shortest(*case, 3)) for case in known]
        with mock.patch("warmsteps.settle.FEW_ROWS", 1):
            for case, expected in zip(known, told):
                word, shown = verdict(*case)
                self.assertTrue((is_rows if word == "right" else is_weaving)(*case, shown))
                self.assertEqual((word, least_weaving(*case), shortest(*case, 3)), expected)


class TurnsTest(unittest.TestCase):
    def test_turns_one_behind_the_other(self):
        for shapes in (1, 2, 3):
            net = Net(two_cells(), shapes)
            net.gather()
            turns = Turns(net)
            self.assertEqual(len(turns.every), (1, 1, 2, 6)[shapes])
            for turn in range(len(turns.every)):
                self.assertEqual(turns.behind(turn, turns.back(turn)), SAME)
                for state in range(net.how_many()):
                    turned = turns.state(turn, state)
                    self.assertEqual(turns.state(turns.back(turn), turned), state)
                    for other in range(len(turns.every)):
                        self.assertEqual(turns.state(other, turned), turns.state(turns.behind(turn, other), state))

    def test_the_first_of_those_that_are_alike(self):
        net = Net(Rules.careful(), 3)
        turns = Turns(net)
        for key in range(4):
            for note in range(4):
                one = net.standings.one(("sure", "", key, note))
                turn, first = turns.first(one)
                self.assertEqual(turns.turned_one(turn, one), first)
                expected = (0 if key == 0 else 1, 0 if note == 0 else 1 if note == key or key == 0 else 2)
                self.assertEqual(net.standings.told(first)[2:], expected)
                for other in range(6):
                    self.assertEqual(turns.first(turns.turned_one(other, one))[1], first)


class MeetingsTest(unittest.TestCase):
    def plainly(self, net):
        """The standings in which a hand can be in each state, if each hand were any number of hands."""
        met = {(0, plain.beginning(net.for_rules))}
        ways = [(source, net.standings, found, change, target) for source, found, change, target in net.all_ways()]
        grown = True
        while grown:
            more = set(met)
            for source, standings, found, change, target in ways:
                for number, standing in met:
                    if number == source and standings.one(standing) & found:
                        after = standings.told(standings.behind(standings.one(standing), change))
                        more.add((target, after))
                        more |= {(other, after) for other, known in met if known == standing}
            grown = more != met
            met = more
        return met

    def test_hands_of_which_there_are_any_number(self):
        for rules, shapes in ((Rules.careful(), 2), (Rules.hasty(), 2), (ladder(3), 1), (queue(), 1), (two_cells(), 1),
                              (Rules.plain(("add", "tell")), 1)):
            net = Net(rules, shapes)
            many = net.gather()
            expected = self.plainly(net)
            for widest in (1, 100, 2048):
                with mock.patch("warmsteps.nets.WIDEST", widest):
                    met = meetings(net.standings, net.start, net.all_ways(), many)
                for number, found in enumerate(met):
                    told = {net.standings.told(1 << bit) for bit in numbers_in(found)}
                    self.assertEqual(told, {standing for other, standing in expected if other == number})


class StandingsTest(unittest.TestCase):
    def test_sets_of_standings(self):
        for rules, shapes in ((two_cells(), 2), (Rules.careful(), 3), (Rules.plain(("add", "tell")), 1)):
            standings = Standings(rules, shapes)
            known = [(first, second, key, note) for first in standings.parts[0] for second in standings.parts[1]
                     for key in standings.parts[2] for note in standings.parts[3]]
            ones = [standings.one(standing) for standing in known]
            self.assertEqual(sum(ones), standings.whole)
            self.assertEqual([standings.told(one) for one in ones], known)
            for part, worths in enumerate(standings.parts):
                for worth in worths:
                    change = standings.change(part, worth)
                    self.assertEqual(standings.part(change), part)
                    having = sum(one for one, standing in zip(ones, known) if standing[part] == worth)
                    self.assertEqual(standings.having(part, worth), having)
                    for one, standing in zip(ones, known):
                        after = standings.one((*standing[:part], worth, *standing[part + 1:]))
                        self.assertEqual(standings.behind(one, change), after)
                        ahead = sum(other for other, before in zip(ones, known)
                                    if (*before[:part], worth, *before[part + 1:]) == standing)
                        having, shift, spread = standings.ahead_of(change)
                        self.assertEqual(((one & having) >> shift) * spread, ahead)
            self.assertEqual(standings.ahead_of(0), (standings.whole, 0, 1))
            self.assertEqual(standings.behind(ones[0], 0), ones[0])


if __name__ == "__main__":
    unittest.main()
