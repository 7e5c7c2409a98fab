"""Points [6], [9], [10] and the heading of warmsteps/sites.py: class Site."""

import random
import unittest

from tests.making import made
from tests.plain import behind
from tests.samples import ADD_TELL, LATE, LOOK, LOOK_ADD, OUT, ladder, odd_values, two_cells, with_course
from warmsteps.errors import (BadCell, BadEvent, BadHand, BadShape, BadShapes, GoneWrong, Inside, Outside, TooFar,
                              WarmError)
from warmsteps.rules import Rules
from warmsteps.sites import Site
from warmsteps.steps import arrivals, beginning

WRONG_ALONE = (("do", 1), ("do", 1), ("out",))
HASTY_EVENTS = [(0, 1, 1), (0,), (0,), (1, 1, 2), (1,), (1,), (0,)]


def odd_integers():
    """Values of every sort that are no small integers from 0 on."""
    return [value for value in odd_values() if value != 4]


def told(site):
    """All that a site tells of itself."""
    return [site.rules, site.shapes, site.standing, site.hands, site.wrong, site.events(), len(site)]


def gone_wrong():
    """A site where hand 3 has gone wrong by its third event, and hand 1 is inside."""
    site = Site(with_course(LOOK, (1, "plain"), WRONG_ALONE), 2)
    site.play([(3, 1, 2), (1, 1, 1), (3,), (3,)])
    return site


class SiteTest(unittest.TestCase):
    def refused(self, error, attribute, value, call, *args):
        """The call raises this error with the very value, and changes nothing."""
        with self.assertRaises(error) as held:
            call(*args)
        self.assertIs(type(held.exception), error)
        self.assertIs(getattr(held.exception, attribute), value)


class BeginningTest(SiteTest):
    def test_the_document(self):
        site = Site(Rules.hasty(), 2)
        site.play([(0, 1, 1), (0,), (0,), (1, 1, 2), (1,), (1,), (0,)])
        self.assertEqual([site.standing, site.hands[0], site.wrong, len(site)],
                         [("plain", "", 1, 2), (1, (("word", 1, "sure"), ("out",)), 1, 0, ()), None, 7])

    def test_nobody_is_inside(self):
        for rules in (Rules.careful(), two_cells(), two_cells(closed=True), Rules.plain(ADD_TELL)):
            for shapes in (1, 2, 3):
                site = Site(rules, shapes)
                self.assertEqual(told(site), [rules, shapes, beginning(rules), {}, None, [], 0])

    def test_any_value_that_is_no_number_of_shapes(self):
        for shapes in [0, *odd_values()]:
            self.refused(BadShapes, "value", shapes, Site, Rules.hasty(), shapes)

    def test_arguments_by_name(self):
        site = Site(shapes=2, rules=Rules.hasty())
        site.come(shape=2, cell=1, hand=7)
        site.move(hand=7)
        site.play(events=[(7,)])
        site.undo(many=1)
        self.assertEqual(site.events(), [(7, 1, 2), (7,)])

    def test_properties_are_not_assigned(self):
        for name in ("rules", "shapes", "standing", "hands", "wrong"):
            self.assertRaises(AttributeError, setattr, Site(Rules.hasty(), 1), name, None)


class ComeTest(SiteTest):
    def test_each_cell_of_open_and_closed_rules(self):
        for rules in (two_cells(), Rules.plain(("take", "tell")), Rules.careful(), two_cells(closed=True)):
            for shapes in (1, 2, 3):
                found = []
                for cell in range(-1, 4):
                    for shape in range(-1, 5):
                        site = Site(rules, shapes)
                        try:
                            site.come(5, cell, shape)
                        except (BadCell, BadShape):
                            self.assertEqual(len(site), 0)
                            continue
                        found.append(site.hands[5])
                        self.assertEqual(site.events(), [(5, cell, shape)])
                        self.assertEqual(site.standing, beginning(rules))
                self.assertEqual(found, arrivals(rules, shapes, beginning(rules)))

    def test_the_second_cell_of_closed_rules_and_of_one_cell(self):
        for rules in (two_cells(closed=True), Rules.careful(), Rules(LOOK, {(1, "plain"): LATE}, closed=True)):
            cell = 2
            self.refused(BadCell, "value", cell, Site(rules, 1).come, 0, cell, 0)
            self.refused(BadCell, "value", cell, Site(rules, 1).come, 0, cell, None)

    def test_the_word_of_the_moment_is_read(self):
        course = (("word", 1, "a"), ("word", 2, "b"), ("do", 1), ("on",))
        rules = with_course(LOOK_ADD, (1, "plain"), course, words=[(1, "a"), (2, "b")])
        site = Site(rules, 2)
        site.play([(0, 1, 1), (1, 1, 2), (3, 2, 0), (0,), (0,), (2, 1, 2), (4, 2, 0)])
        self.assertEqual(site.standing, ("a", "b", 0, 0))
        self.assertEqual(site.hands[1], (1, course, 2, 0, (1, 2)))
        self.assertEqual(site.hands[2], (1, rules.courses[(1, "a")], 2, 0, (1, 2)))
        self.assertEqual(site.hands[3], (2, rules.courses[(2, "plain")], 0, 0, (2,)))
        self.assertEqual(site.hands[4], (2, rules.courses[(2, "b")], 0, 0, (2,)))

    def test_a_hand_comes_again_with_another_shape(self):
        site = Site(Rules.hasty(), 3)
        site.play([(9, 1, 1)] + [(9,)] * 5)
        self.assertEqual([site.hands, site.standing], [{}, ("sure", "", 1, 1)])
        site.come(9, 1, 3)
        self.assertEqual(site.hands, {9: (1, Rules.hasty().courses[(1, "sure")], 3, 0, (1,))})
        site.play([(9,), (9,), (9,)])
        self.assertEqual(site.hands, {})
        site.play([(9, 1, 1), (9,), (9,), (9,), (9,)])
        self.assertEqual([site.hands, site.wrong], [{}, None])

    def test_hands_are_any_integers_from_0_on(self):
        site = Site(Rules.hasty(), 1)
        for hand in (0, 7, 10**59):
            site.come(hand, 1, 1)
            site.move(hand)
        self.assertEqual(sorted(site.hands), [0, 7, 10**59])
        for hand in [-1, -10**59, *odd_integers()]:
            if not isinstance(hand, int) or isinstance(hand, bool) or hand < 0:
                self.refused(BadHand, "value", hand, site.come, hand, 1, 1)
                self.refused(BadHand, "value", hand, site.move, hand)

    def test_any_cell_and_any_shape(self):
        for rules in (two_cells(), Rules.careful(), Rules.plain(ADD_TELL)):
            site = Site(rules, 2)
            for value in [0, 3, *odd_values()]:
                self.refused(BadCell, "value", value, site.come, 0, value, 1)
            for value in [3, *odd_values()]:
                self.refused(BadShape, "value", value, site.come, 0, 1, value)
                if rules.pattern != LOOK:
                    self.refused(BadShape, "value", value, site.come, 0, 2, value)
            self.assertEqual(len(site), 0)

    def test_the_shape_of_cells_at_which_none_is(self):
        for shape in (1, 2):
            self.refused(BadShape, "value", shape, Site(two_cells(), 2).come, 0, 2, shape)
            self.refused(BadShape, "value", shape, Site(Rules.plain(ADD_TELL), 2).come, 0, 1, shape)
        shape = 0
        self.refused(BadShape, "value", shape, Site(two_cells(), 2).come, 0, 1, shape)

    def test_of_several_errors_the_first(self):
        site = Site(two_cells(), 1)
        site.come(1, 1, 1)
        hand = 1
        self.refused(Inside, "hand", hand, site.come, hand, 1, 1)
        self.refused(Inside, "hand", hand, site.come, hand, 2, 0)
        shape = 2
        self.refused(BadShape, "value", shape, site.come, hand, 1, shape)
        cell = 3
        self.refused(BadCell, "value", cell, site.come, hand, cell, shape)
        hand = True
        self.refused(BadHand, "value", hand, site.come, hand, cell, shape)
        self.assertEqual(site.events(), [(1, 1, 1)])

    def test_a_hand_inside(self):
        site = Site(Rules.careful(), 2)
        site.come(0, 1, 1)
        ahead = told(site)
        self.refused(Inside, "hand", 0, site.come, 0, 1, 2)
        self.assertEqual(told(site), ahead)


class MoveTest(SiteTest):
    def test_a_hand_outside(self):
        site = Site(Rules.plain(LOOK), 1)
        self.refused(Outside, "hand", 0, site.move, 0)
        site.play([(0, 1, 1), (0,), (0,)])
        self.assertEqual(site.hands, {})
        ahead = told(site)
        self.refused(Outside, "hand", 0, site.move, 0)
        self.refused(Outside, "hand", 4, site.move, 4)
        self.assertEqual(told(site), ahead)

    def test_behind_on_the_second_word_is_read_by_a_move(self):
        rules = two_cells()
        site = Site(rules, 1)
        site.play([(0, 1, 1), (0,), (0,), (0,)])
        self.assertEqual(site.hands, {0: (2, (), 0, 0, (2,))})
        site.move(0)
        self.assertEqual(site.hands, {0: (2, rules.courses[(2, "plain")], 0, 0, (2,))})

    def test_each_event_is_that_of_the_plain_words(self):
        chance = random.Random(1)
        for number in range(150):
            rules = made(number, changes=5)
            shapes = 1 + number % 3
            site, hands, standing, wrong = Site(rules, shapes), {}, beginning(rules), None
            events, past = [], []
            while wrong is None and len(events) < 40:
                hand = chance.randint(0, 3)
                past.append(told(site))
                if hand in hands:
                    events.append((hand,))
                    site.move(hand)
                    end = behind(rules, standing, hands[hand])
                    if end is None:
                        wrong = hand
                    else:
                        standing, hands[hand] = end
                        if end[1] is None:
                            del hands[hand]
                else:
                    hands[hand] = chance.choice(arrivals(rules, shapes, standing))
                    events.append((hand, hands[hand][0], hands[hand][2]))
                    site.come(*events[-1])
                self.assertEqual(told(site), [rules, shapes, standing, hands, wrong, events, len(events)])
            other = Site(rules, shapes)
            other.play(tuple(events))
            self.assertEqual(told(other), told(site))
            while past:
                site.undo(1)
                self.assertEqual(told(site), past.pop())


class WrongTest(SiteTest):
    def check(self, site, hand):
        """The next move of this hand goes wrong, and nothing else changes."""
        standing, hands, events = site.standing, site.hands, site.events()
        site.move(hand)
        self.assertEqual(told(site)[2:], [standing, hands, hand, [*events, (hand,)], len(events) + 1])
        self.assertIn(hand, site.hands)

    def test_by_an_act(self):
        site = Site(with_course(LOOK, (1, "plain"), WRONG_ALONE), 1)
        site.play([(2, 1, 1), (2,)])
        self.check(site, 2)
        site = Site(with_course(LOOK_ADD, (2, "plain"), (("do", 1), ("out",))), 1)
        site.come(0, 2, 0)
        self.check(site, 0)

    def test_by_trust(self):
        rules = Rules.hasty()
        site = Site(rules, 2)
        site.play([(0, 1, 1), (0,), (0,), (1, 1, 2), (1,), (1,), (0,), (0,), (0,), (0, 1, 1), (0,), (0,)])
        self.assertEqual([site.standing, site.hands[0][2:]], [("sure", "", 1, 2), (1, 2, (1,))])
        self.check(site, 0)

    def test_by_out(self):
        site = Site(with_course(LOOK, (1, "plain"), OUT), 1)
        site.come(0, 1, 1)
        self.check(site, 0)
        site = Site(with_course(ADD_TELL, (1, "plain"), LATE), 3)
        site.play([(0, 1, 0), (0,)])
        self.check(site, 0)

    def test_what_is_told_behind_it(self):
        site = gone_wrong()
        self.assertEqual([site.wrong, len(site), sorted(site.hands)], [3, 4, [1, 3]])
        self.assertEqual(site.hands[3], (1, WRONG_ALONE[1:], 2, 0, ()))
        self.assertEqual(site.events(), [(3, 1, 2), (1, 1, 1), (3,), (3,)])

    def test_gone_wrong_ahead_of_all_errors(self):
        site = gone_wrong()
        ahead = told(site)
        for hand in [0, 1, 3, *odd_values()]:
            self.refused(GoneWrong, "hand", 3, site.move, hand)
            for cell, shape in ((1, 1), (1, None), (None, 1), (2, 0)):
                self.refused(GoneWrong, "hand", 3, site.come, hand, cell, shape)
        self.assertEqual(told(site), ahead)

    def test_no_event_can_be_played(self):
        site = gone_wrong()
        ahead = told(site)
        for events in ([(1,)], [(0, 1, 1)], [(3,), (3,)], [None]):
            self.refused(BadEvent, "number", 0, site.play, events)
        site.play([])
        site.play(())
        self.assertEqual(told(site), ahead)


class PlayTest(SiteTest):
    def test_the_number_of_the_first_that_is_none(self):
        events = [*HASTY_EVENTS, (1,)]
        values = [(), (0, 1), (0, 1, 1, 1), [0], [0, 1, 1], (True,), (None,), (-1,), ((0,),), "0", (5,), (2, 1, 0),
                  (2, 2, 0), (2, 1, 3), (0, 1, 1), (2, True, 1), (2, 1, True), *odd_values()]
        for number in range(len(events)):
            for value in values:
                site = Site(Rules.hasty(), 2)
                site.play([(4, 1, 2)])
                ahead = told(site)
                # Hand 0 is inside behind its coming, and the first of all events.
                if number == 0 and value == (0, 1, 1):
                    continue
                changed = [*events[:number], value, *events[number + 1:], "no event either"]
                copied = list(changed)
                self.refused(BadEvent, "number", number, site.play, changed)
                self.assertEqual(told(site), ahead)
                self.assertEqual(changed, copied)

    def test_behind_what_goes_wrong_nothing_can_be_done(self):
        site = Site(with_course(LOOK, (1, "plain"), OUT), 1)
        self.refused(BadEvent, "number", 2, site.play, [(0, 1, 1), (0,), (1, 1, 1)])
        self.assertEqual(told(site)[2:], [("plain", "", 0, 0), {}, None, [], 0])
        site.play([(0, 1, 1), (0,)])
        self.assertEqual(site.wrong, 0)

    def test_lists_tuples_and_none(self):
        for events in (HASTY_EVENTS, tuple(HASTY_EVENTS)):
            site = Site(Rules.hasty(), 2)
            site.play(events)
            self.assertEqual(site.events(), HASTY_EVENTS)
            site.play([])
            self.assertEqual(len(site), 7)

    def test_its_own_events_again(self):
        site = Site(Rules.plain(LOOK), 1)
        site.play([(0, 1, 1), (0,), (0,)])
        site.play(site.events())
        self.assertEqual(len(site), 6)


class UndoTest(SiteTest):
    def test_none_some_and_all(self):
        for many in range(len(HASTY_EVENTS) + 1):
            site, other = Site(Rules.hasty(), 2), Site(Rules.hasty(), 2)
            site.play(HASTY_EVENTS)
            site.undo(many)
            other.play(HASTY_EVENTS[:len(HASTY_EVENTS) - many])
            self.assertEqual(told(site), told(other))
            site.play(HASTY_EVENTS[len(HASTY_EVENTS) - many:])
            self.assertEqual(site.events(), HASTY_EVENTS)

    def test_a_hand_that_went_out_is_inside_again(self):
        site = Site(Rules.plain(LOOK), 1)
        site.play([(0, 1, 1), (0,), (0,)])
        site.undo(1)
        self.assertEqual(site.hands, {0: (1, OUT, 1, 0, ())})

    def test_too_far(self):
        site = Site(Rules.hasty(), 2)
        for events in ([], HASTY_EVENTS):
            site.play(events)
            ahead = told(site)
            for many in [len(events) + 1, *odd_values()]:
                if many != 4 or not events:
                    self.refused(TooFar, "many", len(events), site.undo, many)
            self.assertEqual(told(site), ahead)

    def test_the_event_by_which_a_hand_went_wrong(self):
        site = gone_wrong()
        ahead = told(site)
        site.undo(0)
        self.assertEqual(told(site), ahead)
        self.refused(TooFar, "many", 4, site.undo, 5)
        site.undo(1)
        self.assertEqual([site.wrong, len(site), site.hands[3]], [None, 3, (1, WRONG_ALONE[1:], 2, 0, ())])
        site.move(1)
        site.come(0, 1, 1)
        site.undo(2)
        site.move(3)
        self.assertEqual(told(site), ahead)
        site.undo(4)
        self.assertEqual(told(site)[2:], [("plain", "", 0, 0), {}, None, [], 0])


class ForkTest(SiteTest):
    def test_it_stands_the_same_and_goes_its_own_way(self):
        site = Site(Rules.hasty(), 2)
        site.play(HASTY_EVENTS)
        ahead = told(site)
        fork = site.fork()
        self.assertIsInstance(fork, Site)
        self.assertEqual(told(fork), ahead)
        fork.move(0)
        fork.come(5, 1, 2)
        self.assertEqual(told(site), ahead)
        behind_it = told(fork)
        site.undo(7)
        self.assertEqual(told(fork), behind_it)
        fork.undo(9)
        self.assertEqual(told(fork), told(site))

    def test_of_one_that_has_gone_wrong(self):
        site = gone_wrong()
        fork = site.fork()
        self.assertEqual(told(fork), told(site))
        fork.undo(1)
        self.assertEqual([site.wrong, fork.wrong], [3, None])
        other = site.fork().fork()
        self.assertTrue(other == site)
        self.refused(GoneWrong, "hand", 3, other.move, 1)


class EqualTest(unittest.TestCase):
    def alike(self, one, other, right):
        self.assertIs(one == other, right)
        self.assertIs(other == one, right)
        self.assertIs(one != other, not right)

    def test_though_the_events_were_others(self):
        one, other = Site(Rules.hasty(), 2), Site(Rules.hasty(), 2)
        self.alike(one, other, True)
        one.play([(0, 1, 1)] + [(0,)] * 5)
        self.alike(one, other, False)
        other.play([(4, 1, 1), (7, 1, 2)] + [(7,)] * 5 + [(4,)] * 5)
        self.assertNotEqual(len(one), len(other))
        self.alike(one, other, True)
        one.play([(1, 1, 2), (2, 1, 1)])
        other.play([(2, 1, 1), (1, 1, 2)])
        self.alike(one, other, True)

    def test_each_part_counts(self):
        rules = Rules.hasty()
        site = Site(rules, 2)
        site.play(HASTY_EVENTS)
        others = [Site(rules, 3), Site(Rules(rules.pattern, rules.courses, closed=True), 2)]
        for other in others:
            other.play(HASTY_EVENTS)
            self.assertEqual(told(other)[2:], told(site)[2:])
            self.alike(site, other, False)
        other = Site(rules, 2)
        other.play([(5 if event[0] == 0 else event[0], *event[1:]) for event in HASTY_EVENTS])
        self.alike(site, other, False)
        other = site.fork()
        other.move(1)
        self.alike(site, other, False)

    def test_one_that_has_gone_wrong(self):
        site, other = gone_wrong(), gone_wrong()
        self.alike(site, other, True)
        other.undo(1)
        self.assertEqual([site.standing, site.hands], [other.standing, other.hands])
        self.alike(site, other, False)

    def test_any_value(self):
        site = Site(Rules.careful(), 1)
        for value in [*odd_values(), site.standing, site.hands, told(site), WarmError()]:
            self.alike(site, value, False)


class CopyTest(unittest.TestCase):
    def test_lists_and_dicts_are_new(self):
        site = Site(Rules.hasty(), 2)
        site.play(HASTY_EVENTS)
        ahead = told(site)
        site.hands.clear()
        site.events().clear()
        site.hands[0] = None
        self.assertEqual(told(site), ahead)
        self.assertIsNot(site.hands, site.hands)
        self.assertIsNot(site.events(), site.events())

    def test_what_is_handed_in_may_be_changed_behind(self):
        courses = ladder(2).courses
        rules = Rules(LOOK, courses)
        events = [(0, 1, 1), (0,)]
        site = Site(rules, 1)
        site.play(events)
        ahead = told(site)
        events.clear()
        courses.clear()
        rules.courses.clear()
        self.assertEqual(told(site), ahead)
        site.move(0)
        self.assertEqual(site.standing, ("a", "", 0, 0))

    def test_a_call_that_raises_changes_nothing(self):
        site = Site(Rules.hasty(), 2)
        site.play(HASTY_EVENTS)
        ahead = told(site)
        calls = [(site.come, 0, 1, 1), (site.come, None, 1, 1), (site.come, 5, 2, 0), (site.come, 5, 1, 3),
                 (site.move, 5), (site.move, True), (site.play, [(0,), (1,), (9,)]), (site.undo, 8)]
        for call, *args in calls:
            self.assertRaises(WarmError, call, *args)
            self.assertEqual(told(site), ahead)


if __name__ == "__main__":
    unittest.main()
