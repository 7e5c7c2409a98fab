"""The searches behind verdicts and least weavings: each by itself shows the same, whatever the others would find."""

import random
import unittest
from unittest import mock

from tests import plain
from tests.making import changed, made
from tests.samples import LATE, LOOK, hoard, ladder, queue, reread, two_cells
from warmsteps.backward import Classes, least_of
from warmsteps.forward import MANY_EVENTS, plain_rows, settled
from warmsteps.nets import Net, Standings
from warmsteps.rules import Rules
from warmsteps.verdicts import is_rows, is_weaving, verdict


def claiming(number):
    """Rules of this number that claim much: hands are counted, and wait."""
    chance = random.Random(number)
    rules = chance.choice([hoard(), hoard(), queue(), ladder(3), ladder(4), Rules.careful(), reread()])
    for _ in range(chance.randint(1, 6)):
        rules = changed(chance, rules)
    return rules


def waiting():
    """Rules for a look that go wrong by two hands that wait behind a claim; each of them must come again ahead of it."""
    over = (("claim", 1, "c", "d", LATE), ("out",))
    return Rules(LOOK, {(1, "plain"): (("claim", 1, "plain", "a", LATE), ("claim", 1, "b", "c", over), ("do", 1),
                                       ("out",)),
                        (1, "a"): (("do", 1), ("word", 1, "plain"), ("word", 1, "b"), ("out",)),
                        (1, "b"): LATE, (1, "c"): LATE, (1, "d"): (("do", 1), ("do", 1), ("out",))})


class ForwardTest(unittest.TestCase):
    def check(self, rules, shapes, most):
        """The word of the search from the beginning; what it shows must show it."""
        word, shown = settled(Net(rules, shapes), most)
        if word == "right":
            self.assertTrue(plain.is_right_list(rules, shapes, shown))
            self.assertTrue(is_rows(rules, shapes, shown))
        elif shown is not None:
            self.assertTrue(plain.is_wrong_weaving(rules, shapes, shown))
            self.assertTrue(is_weaving(rules, shapes, shown))
            hands = {event[0] for event in shown}
            self.assertEqual(hands, set(range(len(hands))))
        return word

    def test_many_rules(self):
        words = {"right": 0, "wrong": 0}
        for number in range(250):
            for rules in (made(number, changes=6), claiming(number)):
                shapes = 1 + number % 2
                word = self.check(rules, shapes, MANY_EVENTS)
                self.assertEqual(word, verdict(rules, shapes)[0])
                self.assertEqual(self.check(rules, shapes, 0), word)
                words[word] += 1
        self.assertGreater(min(words.values()), 50)

    def test_in_depth_alone(self):
        with mock.patch("warmsteps.forward.MOST_IN_BREADTH", 1):
            for number in range(150):
                for rules in (made(number, changes=6), claiming(number)):
                    shapes = 1 + number % 2
                    self.assertEqual(self.check(rules, shapes, None), verdict(rules, shapes)[0])

    def test_hands_that_wait_in_a_claimed_state(self):
        for rules in (hoard(), waiting()):
            for shapes in (1, 2):
                self.assertEqual(self.check(rules, shapes, MANY_EVENTS), "wrong")
                with mock.patch("warmsteps.forward.MOST_IN_BREADTH", 1):
                    self.assertEqual(self.check(rules, shapes, None), "wrong")
            self.assertEqual(least_of(Classes(Net(rules, 1)), 3), plain.search(rules, 1, 3))
            self.assertIsNone(least_of(Classes(Net(rules, 1)), 2))

    def test_a_limit_of_events(self):
        self.assertEqual(settled(Net(ladder(6), 1), 0), ("wrong", None))
        word, weaving = settled(Net(ladder(6), 1), None)
        self.assertEqual(settled(Net(ladder(6), 1), len(weaving)), (word, weaving))

    def test_rows_that_count_nothing(self):
        self.assertIsNone(plain_rows(Net(Rules.hasty(), 2)))
        self.assertIsNone(plain_rows(Net(ladder(5), 1)))
        for rules in (two_cells(), Rules.plain(LOOK), Rules.plain(("add", "tell"))):
            rows = plain_rows(Net(rules, 2))
            self.assertTrue(plain.is_right_list(rules, 2, rows))
            self.assertEqual(len({row[0] for row in rows}), len(rows))
            self.assertEqual({row[2] for row in rows}, {()})


class StandingsTest(unittest.TestCase):
    def test_sets_of_standings(self):
        for rules, shapes in ((two_cells(), 2), (Rules.careful(), 3), (Rules.plain(("add", "tell")), 1)):
            standings = Standings(rules, shapes)
            known = [(first, second, key, note) for first in standings.parts[0] for second in standings.parts[1]
                     for key in standings.parts[2] for note in standings.parts[3]]
            ones = [standings.one(standing) for standing in known]
            self.assertEqual(sum(ones), standings.whole)
            self.assertEqual([standings.told(one) for one in ones], known)
            for part, worths in enumerate(standings.parts):
                for worth in worths:
                    change = standings.change(part, worth)
                    self.assertEqual(standings.part(change), part)
                    having = sum(one for one, standing in zip(ones, known) if standing[part] == worth)
                    self.assertEqual(standings.having(part, worth), having)
                    for one, standing in zip(ones, known):
                        after = standings.one((*standing[:part], worth, *standing[part + 1:]))
                        self.assertEqual(standings.behind(one, change), after)
                        ahead = sum(other for other, before in zip(ones, known)
                                    if (*before[:part], worth, *before[part + 1:]) == standing)
                        self.assertEqual(standings.ahead(one, change), ahead)
            self.assertEqual(standings.ahead(ones[0], 0), ones[0])
            self.assertEqual(standings.behind(ones[0], 0), ones[0])


if __name__ == "__main__":
    unittest.main()
