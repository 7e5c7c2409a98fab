"""Point [10] and the heading of warmsteps/least.py: least_weaving, fewest_hands, shortest."""

import unittest

from tests import plain
from tests.large import many_rows, right_look, right_two_cells, wrong_by_four
from tests.making import made
from tests.samples import (LATE, LOOK, LOOK_ADD, OUT, fused, given_up, ladder, odd_values, queue, reread, two_cells,
                           with_course)
from warmsteps.errors import BadShapes
from warmsteps.least import fewest_hands, least_weaving, shortest
from warmsteps.rules import Rules
from warmsteps.verdicts import is_weaving, verdict


def hands_of(weaving):
    """How many different hands a weaving has."""
    return len({event[0] for event in weaving})


def rung(many):
    """The least weaving of the ladder of so many hands: each but the last comes, does, and claims."""
    return [event for hand in range(many) for event in ((hand, 1, 1), (hand,), (hand,))]


class LeastTest(unittest.TestCase):
    def test_the_document(self):
        hasty = Rules.hasty()
        self.assertEqual([fewest_hands(hasty, 2), len(least_weaving(hasty, 2)), len(shortest(hasty, 2, 3)),
                          fewest_hands(hasty, 1)], [2, 13, 12, None])

    def test_few_hands_stand_ahead_of_few_events(self):
        hasty = Rules.hasty()
        self.assertEqual(hands_of(least_weaving(hasty, 2)), 2)
        self.assertEqual(hands_of(shortest(hasty, 2, 3)), 3)
        self.assertEqual(shortest(hasty, 2, 2), least_weaving(hasty, 2))
        self.assertEqual(shortest(hasty, 2, 4), shortest(hasty, 2, 3))
        self.assertIsNone(shortest(hasty, 2, 1))

    def test_as_many_hands_as_are_needed(self):
        for many in (2, 3, 4):
            for shapes in (1, 2, 3):
                rules = ladder(many)
                self.assertEqual(fewest_hands(rules, shapes), many)
                self.assertEqual(least_weaving(rules, shapes), rung(many))
                for hands in (1, 2, 3, 4):
                    self.assertEqual(shortest(rules, shapes, hands), rung(many) if hands >= many else None)

    def test_no_weaving_of_four_hands_but_one_of_more(self):
        for many in (5, 6):
            self.assertEqual(verdict(ladder(many), 2)[0], "wrong")
            for hands in (1, 2, 3, 4):
                self.assertIsNone(shortest(ladder(many), 2, hands))

    def test_one_hand_alone(self):
        rules = with_course(LOOK, (1, "plain"), OUT)
        for shapes in (1, 2, 3):
            self.assertEqual(least_weaving(rules, shapes), [(0, 1, 1), (0,)])
            self.assertEqual(fewest_hands(rules, shapes), 1)
            for hands in (1, 2, 3, 4):
                self.assertEqual(shortest(rules, shapes, hands), [(0, 1, 1), (0,)])

    def test_the_second_cell_of_open_rules(self):
        courses = {(1, "plain"): (("do", 1), ("on",)), (2, "plain"): OUT}
        self.assertEqual(least_weaving(Rules(LOOK_ADD, courses), 2), [(0, 2, 0), (0,)])
        closed = Rules(LOOK_ADD, courses, closed=True)
        self.assertEqual(least_weaving(closed, 2), [(0, 1, 1), (0,), (0,), (0,), (0,)])
        self.assertEqual(least_weaving(fused(closed=False), 1), plain.search(fused(closed=False), 1, 1))
        self.assertIsNone(least_weaving(fused(closed=True), 1))

    def test_a_hand_that_went_out_comes_again_first(self):
        """One hand alone writes what it trusts with another shape later."""
        course = (("note",), ("set", "note"), ("do", 1), ("word", 1, "a"), ("out",))
        rules = Rules(LOOK, {(1, "plain"): course, (1, "a"): (("note",), ("trust",), ("out",))})
        expected = [(0, 1, 1), (0,), (0,), (0,), (0,), (0,), (0, 1, 2), (0,), (0,)]
        self.assertEqual(least_weaving(rules, 2), expected)
        self.assertIsNone(least_weaving(rules, 1))
        # With two hands the one that writes need not do its last move.
        self.assertEqual(shortest(rules, 2, 2), [*expected[:5], (1, 1, 2), (1,), (1,)])

    def test_right_rules(self):
        for rules in (Rules.careful(), given_up(), queue(), two_cells(), two_cells(closed=True), Rules.plain(LOOK),
                      right_look(), right_two_cells()):
            for shapes in (1, 2, 3):
                self.assertIsNone(least_weaving(rules, shapes))
                self.assertIsNone(fewest_hands(rules, shapes))
                for hands in (1, 2, 3, 4):
                    self.assertIsNone(shortest(rules, shapes, hands))

    def test_against_a_plain_search(self):
        found = {}
        for number in range(250):
            rules, shapes = made(number, changes=6, most=24), 1 + number % 3
            # A plain search is long where there is nothing to be found.
            most = 1 if verdict(rules, shapes)[0] == "right" else 2
            weavings = [plain.search(rules, shapes, hands) for hands in range(1, most + 1)]
            for hands, weaving in enumerate(weavings):
                self.assertEqual(shortest(rules, shapes, hands + 1), weaving, number)
            few = [weaving for weaving in weavings if weaving is not None]
            if few:
                self.assertEqual(least_weaving(rules, shapes), few[0])
                self.assertEqual(fewest_hands(rules, shapes), hands_of(few[0]))
                found[hands_of(few[0])] = found.get(hands_of(few[0]), 0) + 1
        self.assertGreater(min(found[1], found[2]), 15)

    def test_a_hand_goes_on_freely_though_another_could_come_instead(self):
        """Behind four events hand 0 has gone on by itself, which Python orders ahead of all weavings where it waits."""
        late = (("word", 1, "d"), ("word", 2, "plain"), ("do", 1), ("on",))
        rules = Rules(("add", "tell"), {
            (1, "plain"): (("word", 2, "a"), ("word", 1, "c"), ("do", 1), ("on",)),
            (1, "a"): (("claim", 2, "a", "a", late), ("do", 1), ("on",)),
            (1, "c"): (("word", 2, "plain"), ("word", 1, "a"), ("do", 1), ("on",)),
            (1, "d"): (("do", 1), ("do", 1), ("on",)),
            (2, "plain"): (("do", 2), ("out",)), (2, "a"): (("word", 1, "plain"), ("do", 2), ("out",))})
        expected = [(0, 1, 0), (0,), (0,), (0,), (0,), (1, 1, 0), (1,), (0,), (0,), (0,), (1,), (0, 1, 0), (0,), (0,),
                    (2, 1, 0), (2,), (2,)]
        self.assertEqual(shortest(rules, 1, 3), expected)
        self.assertEqual(plain.search(rules, 1, 3), expected)

    def test_three_hands_against_a_plain_search(self):
        for rules in (ladder(3), ladder(4), with_course(LOOK, (1, "plain"), OUT), fused(closed=False), queue()):
            self.assertEqual(shortest(rules, 1, 3), plain.search(rules, 1, 3))

    def test_more_hands_need_no_more_events(self):
        for number in range(150):
            rules, shapes = made(number, changes=6), 1 + number % 3
            ahead = None
            for hands in (1, 2, 3):
                weaving = shortest(rules, shapes, hands)
                if ahead is not None:
                    self.assertLessEqual(len(weaving), len(ahead))
                    self.assertLessEqual(weaving, ahead if len(weaving) == len(ahead) else weaving)
                if weaving is not None:
                    self.assertTrue(is_weaving(rules, shapes, weaving))
                    self.assertTrue(plain.is_wrong_weaving(rules, shapes, weaving))
                    self.assertLessEqual(hands_of(weaving), hands)
                    came = list(dict.fromkeys(event[0] for event in weaving))
                    self.assertEqual(came, list(range(len(came))))
                ahead = weaving

    def test_forty_moves_six_words_and_three_shapes(self):
        rules = wrong_by_four()
        for shapes in (1, 2, 3):
            weaving = least_weaving(rules, shapes)
            self.assertEqual([hands_of(weaving), fewest_hands(rules, shapes)], [4, 4])
            self.assertTrue(plain.is_wrong_weaving(rules, shapes, weaving))
            self.assertEqual(shortest(rules, shapes, 4), weaving)
            self.assertIsNone(shortest(rules, shapes, 3))
        self.assertIsNone(least_weaving(many_rows(), 2))
        self.assertEqual(len(least_weaving(reread(), 3)), 28)

    def test_shapes_are_judged(self):
        rules = Rules.hasty()
        for shapes in [0, *odd_values()]:
            for call in (least_weaving, fewest_hands, lambda *args: shortest(*args, 2)):
                with self.assertRaises(BadShapes) as held:
                    call(rules, shapes)
                self.assertIs(held.exception.value, shapes)

    def test_arguments_by_name(self):
        rules = ladder(2)
        self.assertEqual(least_weaving(shapes=1, rules=rules), rung(2))
        self.assertEqual(fewest_hands(shapes=1, rules=rules), 2)
        self.assertEqual(shortest(hands=2, shapes=1, rules=rules), rung(2))

    def test_equal_and_new_each_time(self):
        rules = ladder(3)
        first = least_weaving(rules, 2)
        first.clear()
        self.assertEqual(least_weaving(rules, 2), rung(3))
        self.assertEqual(shortest(Rules.hasty(), 3, 3), shortest(Rules.hasty(), 3, 3))
        self.assertEqual(rules, ladder(3))

    def test_a_course_that_does_nothing_wrong_by_itself(self):
        """The second hand's word is exchanged between its coming and its reading of the second cell."""
        courses = {(1, "plain"): (("do", 1), ("on",)), (1, "both"): (("do", 1), ("do", 2), ("word", 2, "skip"), ("on",)),
                   (2, "plain"): (("word", 1, "both"), ("do", 2), ("out",)), (2, "skip"): OUT}
        rules = Rules(LOOK_ADD, courses, closed=True)
        weaving = least_weaving(rules, 1)
        self.assertEqual(fewest_hands(rules, 1), 2)
        self.assertEqual(weaving, plain.search(rules, 1, 2))
        courses[(1, "both")] = (("do", 1), ("do", 2), ("out",))
        self.assertIsNone(least_weaving(Rules(LOOK_ADD, courses, closed=True), 1))
        courses[(1, "plain")] = LATE
        self.assertEqual(fewest_hands(Rules(LOOK_ADD, courses, closed=True), 1), 1)


if __name__ == "__main__":
    unittest.main()
