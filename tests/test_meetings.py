"""Points [10], [11] and the heading of warmsteps/meetings.py: meets, is_meeting, is_apart."""

import random
import unittest
from unittest import mock

from tests import plain
from tests.large import many_rows, right_look, right_two_cells
from tests.making import changed, made
from tests.samples import (ADD_TELL, LATE, LOOK, LOOK_ADD, OUT, deep, fused, given_up, hoard, ladder, odd_values,
                           queue, reread, two_cells, with_course, with_part)
from warmsteps.errors import BadShapes, BadState, NotRight
from warmsteps.meetings import is_apart, is_meeting, meets
from warmsteps.rules import Rules
from warmsteps.verdicts import is_rows, verdict

CAREFUL = Rules.careful()
WRITER = CAREFUL.courses[(1, "plain")][1:]
HUGE = 10**59


def held(own, done=0):
    """A hand behind the claim of careful, that has done so many moves more."""
    return (1, WRITER[done:], own, 0, (1,) if done == 0 else ())


def late(own, rest=LATE):
    """A hand that just looks."""
    return (1, rest, own, 0, (1,))


def reader(own, read, rest):
    """A hand that looks up what others wrote."""
    return (1, rest, own, read, (1,))


class MeetsTest(unittest.TestCase):
    def check(self, rules, shapes, states):
        """Whether hands meet in these states; what is told must show it."""
        told = meets(rules, shapes, states)
        self.assertIs(type(told), tuple)
        word, shown = told
        self.assertIs(type(shown), list)
        self.assertEqual(is_meeting(rules, shapes, states, shown), word == "yes")
        self.assertEqual(is_apart(rules, shapes, states, shown), word == "no")
        if word == "yes":
            self.assertTrue(plain.is_met(rules, shapes, states, shown))
            self.assertLessEqual(max([event[0] for event in shown], default=0), 10**8)
        else:
            self.assertEqual(word, "no")
            if len(shown) < 100:
                self.assertTrue(plain.is_right_list(rules, shapes, shown))
            for row in shown:
                self.assertFalse(all(state in row[1] or row[2].count(state) >= states.count(state)
                                     for state in states))
        return word == "yes"

    def test_the_document(self):
        first, second = (1, WRITER, 1, 0, (1,)), (1, LATE, 2, 0, (1,))
        weaving = [(0, 1, 1), (0,), (1, 1, 2)]
        self.assertEqual([meets(CAREFUL, 2, [first, second])[0], meets(CAREFUL, 2, [first, first])[0],
                          is_meeting(CAREFUL, 2, [first, second], weaving)], ["yes", "no", True])

    def test_hands_behind_a_claim(self):
        for shapes in (2, 3):
            # Behind its last move but one it stands as a late hand does.
            for done in range(len(WRITER) - 1):
                self.assertTrue(self.check(CAREFUL, shapes, [held(2, done)]))
                self.assertTrue(self.check(CAREFUL, shapes, [late(1), held(2, done), late(2), late(1)]))
                for other in range(len(WRITER) - 1):
                    for own in (1, 2):
                        self.assertFalse(self.check(CAREFUL, shapes, [held(1, done), held(own, other)]))
                        self.assertFalse(self.check(CAREFUL, shapes, [held(1, done), late(1), held(own, other)]))

    def test_late_hands_of_any_number(self):
        for shapes in (1, 2, 3):
            for many in (1, 2, 3, 4):
                self.assertTrue(self.check(CAREFUL, shapes, [late(shapes)] * many))
                self.assertTrue(self.check(CAREFUL, shapes, [late(1, OUT)[:4] + ((),)] * many))

    def test_readers(self):
        sure = CAREFUL.courses[(1, "sure")]
        for states, expected in (
                ([reader(1, 1, sure[2:]), reader(1, 1, sure[2:])], True), ([reader(1, 2, sure[2:])], False),
                ([reader(2, 0, sure[1:]), reader(2, 2, sure[2:]), late(1)], True),
                ([reader(1, 1, sure[2:]), reader(2, 2, sure[2:])], False),
                ([reader(1, 0, sure[1:]), reader(2, 0, sure[1:])], False), ([reader(1, 0, sure)] * 4, True),
                ([reader(1, 0, sure[2:])], False), ([held(1, 4), reader(1, 0, sure)], True),
                ([held(1, 3), reader(1, 0, sure)], False)):
            self.assertEqual(self.check(CAREFUL, 2, states), expected, states)

    def test_a_state_that_is_never_come_to(self):
        for state in ((1, LATE, 1, 2, (1,)), (1, LATE, 1, 0, ()), (1, WRITER[1:], 1, 1, (1,)), held(1, 0)[:3] + (1, ())):
            self.assertFalse(self.check(CAREFUL, 2, [state]))
            self.assertFalse(self.check(CAREFUL, 3, [late(1), state, late(1)]))
        unread = with_course(LOOK, (1, "plain"), LATE, words=[(1, "a")])
        self.assertFalse(self.check(unread, 1, [(1, OUT, 1, 0, (1,))]))
        self.assertTrue(self.check(unread, 1, [(1, OUT, 1, 0, ())]))

    def test_between_two_cells(self):
        between = (2, (), 0, 0, (2,))
        for closed in (False, True):
            for pattern in (LOOK_ADD, ADD_TELL):
                rules = Rules(pattern, Rules.plain(pattern).courses, closed=closed)
                for many in (1, 2, 3, 4):
                    self.assertTrue(self.check(rules, 2, [between] * many))
                    self.assertTrue(self.check(rules, 2, [(2, (("do", 2), ("out",)), 0, 0, (2,))] * many))
                for owed in ((), (1, 2)):
                    self.assertFalse(self.check(rules, 2, [(2, (), 0, 0, owed)]))
        rules = fused(closed=True)
        self.assertTrue(self.check(rules, 1, [(2, (), 0, 0, ())] * 4))
        self.assertFalse(self.check(rules, 1, [(2, (), 0, 0, (2,))]))

    def test_claims_that_can_be_had_again(self):
        """One that writes the first word again lets others claim it, while those ahead are still inside."""
        rules = queue()
        first, second = (1, rules.courses[(1, "plain")][2:], 1, 0, ()), (1, rules.courses[(1, "a")][2:], 1, 0, ())
        many = (1, rules.courses[(1, "plain")][1:], 1, 0, ())
        for states in ([first, second], [first, second, many, many], [first, first], [second, second, second, many]):
            self.assertTrue(self.check(rules, 1, states))
            self.assertTrue(self.check(rules, 2, states[::-1]))

    def test_two_and_no_more(self):
        """Two hands hold a claim one after the other, and come to the same state."""
        rules = Rules(LOOK, {(1, "plain"): (("claim", 1, "plain", "a", LATE), ("note",), *LATE),
                             (1, "a"): (("claim", 1, "a", "b", LATE), ("note",), *LATE), (1, "b"): LATE})
        state = (1, (("note",), *LATE), 1, 0, (1,))
        self.assertTrue(self.check(rules, 1, [state, state]))
        self.assertFalse(self.check(rules, 1, [state, state, state]))
        self.assertTrue(self.check(rules, 2, [state, with_part(state, 2, 2)]))
        self.assertFalse(self.check(rules, 2, [state, with_part(state, 2, 2), state]))
        # What stands behind it, and does nothing to others, is counted as well.
        out = (1, OUT, 1, 0, ())
        self.assertTrue(self.check(rules, 1, [out] * 4))

    def test_what_hands_wait_in_any_number(self):
        """A hand behind a claim waits, and the claim is there again."""
        rules = Rules(LOOK, {(1, "plain"): (("claim", 1, "plain", "a", LATE), ("word", 1, "plain"), ("note",), *LATE),
                             (1, "a"): LATE})
        waiting, holding = (1, (("note",), *LATE), 1, 0, (1,)), (1, rules.courses[(1, "plain")][1:], 1, 0, (1,))
        self.assertTrue(self.check(rules, 2, [waiting] * 4))
        self.assertTrue(self.check(rules, 2, [waiting, waiting, waiting, holding]))
        self.assertFalse(self.check(rules, 2, [holding, waiting, holding]))

    def judged(self, rules, shapes, number):
        """Hold meets against all weavings of three hands; tell how often it is yes and no."""
        chance = random.Random(number)
        known = plain.meetings(rules, shapes, 3, 6000)
        words = {True: 0, False: 0}
        if known is None:
            return words
        states = sorted({state for states in known for state in states})
        for _ in range(5):
            asked = [chance.choice(states) for _ in range(chance.randint(1, 3))]
            expected = any(all(met.count(state) >= asked.count(state) for state in asked) for met in known)
            for few in (1, 250):
                with mock.patch("warmsteps.settle.FEW_ROWS", few):
                    # More hands than three may meet where three do not.
                    self.assertLessEqual(expected, self.check(rules, shapes, asked), number)
            words[expected] += 1
        return words

    def test_against_all_weavings(self):
        words = {True: 0, False: 0}
        for number in range(120):
            chance = random.Random(number)
            rules = chance.choice([queue(), hoard(), ladder(3), CAREFUL, reread(), given_up()])
            for _ in range(chance.randint(0, 4)):
                rules = changed(chance, rules)
            for known in (rules, made(number, most=20)):
                shapes = 1 + number % 2
                if verdict(known, shapes)[0] == "right":
                    found = self.judged(known, shapes, number)
                    words = {word: words[word] + found[word] for word in words}
        self.assertGreater(min(words.values()), 15)

    def test_forty_moves_and_three_shapes(self):
        chance = random.Random(3)
        for rules in (right_look(), right_two_cells(), given_up(words=6), two_cells()):
            rows = verdict(rules, 3)[1]
            states = sorted({state for row in rows for state in (*row[1], *row[2])})
            for _ in range(12):
                self.check(rules, 3, [chance.choice(states) for _ in range(chance.randint(1, 4))])

    def test_thousands_of_rows(self):
        rules = many_rows()
        states = sorted({state for row in verdict(rules, 1)[1] for state in (*row[1], *row[2])})
        for state in states:
            self.assertTrue(self.check(rules, 1, [state]))

    def test_without_the_quick_search(self):
        with mock.patch("warmsteps.settle.FEW_ROWS", 1):
            self.test_hands_behind_a_claim()
            self.test_readers()
            self.test_two_and_no_more()
            self.test_what_hands_wait_in_any_number()
            with mock.patch("warmsteps.settle.MANY_EVENTS", 0):
                self.test_readers()
                self.test_two_and_no_more()

    def test_by_name_and_again(self):
        states = [held(1), late(2)]
        told = meets(rules=CAREFUL, shapes=2, states=states)
        again = meets(CAREFUL, 2, states)
        self.assertEqual(told, again)
        self.assertIsNot(told[1], again[1])
        told[1].clear()
        self.assertEqual(meets(Rules.careful(), 2, states), again)
        self.assertEqual(states, [held(1), late(2)])
        self.assertIs(is_meeting(rules=CAREFUL, shapes=2, states=states, value=again[1]), True)
        apart = meets(CAREFUL, 2, [held(1), held(2)])[1]
        self.assertIs(is_apart(rules=CAREFUL, shapes=2, states=[held(1), held(2)], value=apart), True)


class IsMeetingTest(unittest.TestCase):
    def test_events_behind(self):
        states = [held(1), late(2)]
        weaving = [(0, 1, 1), (0,), (1, 1, 2)]

        def judged(value):
            return is_meeting(CAREFUL, 2, states, value)
        self.assertIs(judged(weaving), True)
        # A third hand changes nothing; a move of the others does.
        self.assertIs(judged([*weaving, (7, 1, 2), (7,)]), True)
        self.assertIs(judged([*weaving, (1,)]), False)
        self.assertIs(judged([*weaving, (0,)]), False)
        self.assertIs(judged([*weaving, (1,), (1,), (1, 1, 2)]), True)
        self.assertIs(judged(weaving[:2]), False)
        self.assertIs(judged([(HUGE, 1, 1), (HUGE,), (3, 1, 2)]), True)
        self.assertIs(judged([(1, 1, 2), (0, 1, 1), (0,)]), False)

    def test_wrong_events(self):
        weaving = [(0, 1, 1), (0,), (1, 1, 2)]
        states = [held(1), late(2)]
        for part in [*odd_values(), (0, 1, 1), (5,), (-1, 1, 1), (True,), (2, 1, 3), (2, 2, 0), (2, True, 1), [0]]:
            for at in range(4):
                self.assertIs(is_meeting(CAREFUL, 2, states, [*weaving[:at], part, *weaving[at:]]), False)
        for value in [*odd_values(), tuple(weaving), {1: weaving}, deep(list, 30), "events"]:
            if value != []:
                self.assertIs(is_meeting(CAREFUL, 2, states, value), False)
            self.assertIs(is_apart(CAREFUL, 2, states, value), False)
        self.assertIs(is_meeting(CAREFUL, 2, states, []), False)

    def test_the_same_hand_twice(self):
        states = [late(1), late(1)]
        busy = [(0, 1, 1), (0,)]
        self.assertIs(is_meeting(CAREFUL, 1, states, [*busy, (1, 1, 1)]), False)
        self.assertIs(is_meeting(CAREFUL, 1, states, [*busy, (1, 1, 1), (1,), (1,), (1, 1, 1)]), False)
        self.assertIs(is_meeting(CAREFUL, 1, states, [*busy, (1, 1, 1), (2, 1, 1)]), True)
        self.assertIs(is_meeting(CAREFUL, 1, [late(1)] * 4, [*busy, *[(hand, 1, 1) for hand in (1, 2, 3)]]), False)
        self.assertIs(is_meeting(CAREFUL, 1, [late(1)] * 4, [*busy, *[(hand, 1, 1) for hand in (1, 2, 3, 4)]]), True)


class IsApartTest(unittest.TestCase):
    def test_right_rows_that_let_it(self):
        rows = verdict(CAREFUL, 2)[1]
        self.assertTrue(is_rows(CAREFUL, 2, rows))
        self.assertIs(is_apart(CAREFUL, 2, [held(1), late(2)], rows), False)
        self.assertIs(is_apart(CAREFUL, 2, [late(1)] * 4, rows), False)
        apart = meets(CAREFUL, 2, [held(1), held(2)])[1]
        self.assertIs(is_apart(CAREFUL, 2, [held(1), held(2)], apart), True)
        self.assertIs(is_apart(CAREFUL, 2, [held(1), late(2)], apart), False)
        self.assertIs(is_apart(CAREFUL, 2, [held(1)], apart), False)
        self.assertIs(is_apart(CAREFUL, 2, [held(1), held(1)], apart), True)

    def test_rows_that_are_not_right(self):
        states = [held(1), held(2)]
        apart = meets(CAREFUL, 2, states)[1]
        self.assertIs(is_apart(CAREFUL, 2, states, apart[::-1]), True)
        self.assertIs(is_apart(CAREFUL, 2, states, []), False)
        self.assertIs(is_apart(CAREFUL, 2, states, tuple(apart)), False)
        for at in range(len(apart)):
            less = apart[:at] + apart[at + 1:]
            self.assertIs(is_apart(CAREFUL, 2, states, less), is_rows(CAREFUL, 2, less))
            for part in odd_values():
                self.assertIs(is_apart(CAREFUL, 2, states, [*less, part]), False)
        # A row may count more than can be: then it lets it, though it is right.
        more = (("busy", "", 0, 0), (), tuple(sorted([held(1), held(2)])))
        self.assertIs(is_apart(CAREFUL, 2, states, [*apart, more]), False)

    def test_many_and_few(self):
        rules = Rules.plain(LOOK)
        start, doing, done = ("plain", "", 0, 0), (1, LATE, 1, 0, (1,)), (1, OUT, 1, 0, ())
        never = (1, LATE, 1, 0, ())
        rows = [(start, (doing, done), ())]
        self.assertIs(is_rows(rules, 1, rows), True)
        self.assertIs(is_apart(rules, 1, [doing] * 4, rows), False)
        self.assertIs(is_apart(rules, 1, [doing, never], rows), True)
        self.assertIs(is_apart(rules, 1, [never], rows), True)


class ErrorsTest(unittest.TestCase):
    CALLS = (meets, lambda rules, shapes, states: is_meeting(rules, shapes, states, []),
             lambda rules, shapes, states: is_apart(rules, shapes, states, []))

    def refused(self, error, value, rules, shapes, states):
        for call in self.CALLS:
            with self.assertRaises(error) as caught:
                call(rules, shapes, states)
            self.assertIs(caught.exception.value, value)

    def test_no_number_of_shapes(self):
        for value in [*odd_values(), 0, 4, "1", HUGE]:
            self.refused(BadShapes, value, CAREFUL, value, [late(1)])
            self.refused(BadShapes, value, ladder(2), value, [None])

    def test_no_state(self):
        state = late(1)
        values = [*odd_values(), list(state), state[:4], (*state, 0), late(2), late(0), late(HUGE), late(-1), late(True),
                  with_part(state, 3, 2), with_part(state, 3, -1), with_part(state, 4, (2,)), with_part(state, 4, [1]),
                  with_part(state, 4, (1, 1)), with_part(state, 0, 2), with_part(state, 0, True),
                  with_part(state, 1, ()), with_part(state, 1, list(LATE)), with_part(state, 1, LATE[:1]), None]
        for value in values:
            for states in ([value], [late(1), value], [late(1), held(1), value, late(1)]):
                self.refused(BadState, value, CAREFUL, 1, states)
            # It is named ahead of the rules, and the first one is.
            self.refused(BadState, value, ladder(2), 1, [value])
            other = list(state)
            self.refused(BadState, value, CAREFUL, 1, [value, other])
            self.refused(BadState, other, CAREFUL, 1, [other, value])

    def test_rules_that_are_not_right(self):
        hasty = Rules.hasty()
        state = (1, hasty.courses[(1, "sure")], 1, 0, (1,))
        for shapes in (2, 3):
            self.refused(NotRight, hasty, hasty, shapes, [state])
        self.assertEqual(meets(hasty, 1, [state])[0], "yes")
        wrong = ladder(5)
        self.refused(NotRight, wrong, wrong, 1, [(1, LATE[1:], 1, 0, ())])


if __name__ == "__main__":
    unittest.main()
