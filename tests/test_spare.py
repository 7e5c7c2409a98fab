"""Points [8], [11], [14] and the heading of warmsteps/spare.py: spare, swappable, trimmed."""

import unittest

from tests.large import many_rows, right_look, right_two_cells
from tests.making import made
from tests.samples import (ADD_TELL, LATE, LOOK, LOOK_ADD, OUT, fused, given_up, ladder, odd_values, queue, two_cells,
                           with_course)
from warmsteps.costs import never_dearer
from warmsteps.errors import BadCourse, BadShapes, NoPlace, NotRight
from warmsteps.rules import Rules
from warmsteps.spare import spare, swappable, trimmed
from warmsteps.verdicts import verdict

CAREFUL = Rules.careful()
RIGHT = [CAREFUL, given_up(), queue(), fused(closed=True), two_cells(), two_cells(closed=True), Rules.plain(LOOK),
         Rules.plain(LOOK_ADD), Rules.plain(ADD_TELL)]


def changed_right(change, place, shapes):
    """The rules that a change of the move at a place leaves, if there are such and they are right; else None."""
    try:
        rules = change(place)
    except (BadCourse, NoPlace):
        return None
    return rules if verdict(rules, shapes)[0] == "right" else None


def trimmed_plainly(rules, shapes, price):
    """As trimmed, word for word."""
    left = rules
    for place in rules.places()[::-1]:
        less = changed_right(left.without, place, shapes)
        if less is not None and never_dearer(less, left, shapes, price, 0)[0] == "yes":
            left = less
    return left


class SpareTest(unittest.TestCase):
    def test_careful(self):
        # With one shape the key is never another one's; with more, both halves may be missing, but no check.
        plain = [(1, "plain", (3,)), (1, "plain", (4,))]
        self.assertEqual(spare(CAREFUL, 1), [(1, "plain", (0,)), *plain, (1, "sure", (0,)), (1, "sure", (0, 0))])
        for shapes in (2, 3):
            self.assertEqual(spare(CAREFUL, shapes), plain)
        for shapes in (1, 2, 3):
            self.assertEqual(swappable(CAREFUL, shapes), [(1, "plain", (1,)), (1, "plain", (2,)), (1, "plain", (3,)),
                                                          (1, "sure", (0,))])

    def test_place_by_place(self):
        for rules in RIGHT:
            for shapes in (1, 2, 3):
                places = rules.places()
                self.assertEqual(spare(rules, shapes),
                                 [place for place in places if changed_right(rules.without, place, shapes)])
                self.assertEqual(swappable(rules, shapes),
                                 [place for place in places if changed_right(rules.exchanged, place, shapes)])

    def test_many_rules(self):
        found = {"spare": 0, "swappable": 0, "other course": 0}
        for number in range(150):
            rules, shapes = made(number, most=24), 1 + number % 3
            if verdict(rules, shapes)[0] == "right":
                left_out, turned = spare(rules, shapes), swappable(rules, shapes)
                self.assertEqual(left_out, [place for place in rules.places()
                                            if changed_right(rules.without, place, shapes)])
                self.assertEqual(turned, [place for place in rules.places()
                                          if changed_right(rules.exchanged, place, shapes)])
                found["spare"] += len(left_out)
                found["swappable"] += len(turned)
                found["other course"] += any(len(place[2]) > 1 for place in left_out + turned)
        self.assertGreater(min(found.values()), 5)

    def test_moves_without_which_there_are_no_rules(self):
        rules = with_course(LOOK, (1, "plain"), (("key", (*LATE,)), ("do", 1), ("out",)))
        # Nobody writes the key, so that the hand is always late.
        self.assertEqual(spare(rules, 1), [(1, "plain", (0,)), (1, "plain", (1,))])
        # Without the end of a course, and without the last move of one, there are no rules.
        idle = with_course(LOOK, (1, "plain"), LATE, words=[(1, "a")])
        self.assertEqual(spare(idle, 2), [])
        self.assertEqual(swappable(idle, 2), [])
        more = with_course(LOOK, (1, "plain"), (("is", 1, "plain", OUT), *LATE))
        self.assertEqual(spare(more, 2), [(1, "plain", (0,))])
        # Exchanged with the end, what stood ahead of it would stand behind it.
        self.assertEqual(swappable(more, 2), [(1, "plain", (0,))])

    def test_an_other_course(self):
        course = (("is", 1, "a", (("wipe", "key"), ("wipe", "note"), *LATE)), *LATE)
        rules = Rules(LOOK, {(1, "plain"): course, (1, "a"): LATE})
        # Nobody comes to what stands behind the check, nor to the other word.
        self.assertEqual(spare(rules, 2), [(1, "a", (0,)), (1, "plain", (0,)), (1, "plain", (0, 0)),
                                           (1, "plain", (0, 1)), (1, "plain", (1,))])
        # Moved behind the act it does as well.
        self.assertEqual(swappable(rules, 2), [(1, "plain", (0, 0)), (1, "plain", (0, 1))])

    def test_right_for_one_shape_and_wrong_for_two(self):
        for place in ((1, "plain", (0,)), (1, "sure", (0,))):
            self.assertIn(place, spare(CAREFUL, 1))
            self.assertNotIn(place, spare(CAREFUL, 2))
        course = (("note",), ("key", (("do", 1), ("out",))), ("trust",), ("out",))
        courses = {**CAREFUL.courses, (1, "sure"): course}
        rules = Rules(LOOK, courses)
        self.assertEqual(verdict(rules, 2)[0], "right")
        # The key is written behind the word, but ahead of what trusts: a note of nobody is read with one shape, too.
        for shapes in (1, 2):
            self.assertEqual(swappable(rules, shapes), [place for place in rules.places()
                                                        if changed_right(rules.exchanged, place, shapes)])

    def test_forty_moves_and_three_shapes(self):
        for rules in (right_look(), right_two_cells(), many_rows()):
            places = rules.places()
            shapes = 2 if len(rules) < 40 else 3
            told = spare(rules, shapes)
            self.assertTrue(set(told) <= set(places))
            self.assertTrue(set(swappable(rules, shapes)) <= set(places))
            for place in told[:3]:
                self.assertIsNotNone(changed_right(rules.without, place, shapes))
            self.assertEqual(len(rules) - len(trimmed(rules, shapes, 3)) > 0, True)


class TrimmedTest(unittest.TestCase):
    def test_nothing_can_be_left_out(self):
        for pattern in (LOOK, LOOK_ADD, ADD_TELL):
            for shapes in (1, 2, 3):
                self.assertEqual(trimmed(Rules.plain(pattern), shapes, 3), Rules.plain(pattern))

    def test_a_move_that_does_nothing(self):
        course = CAREFUL.courses[(1, "sure")]
        for at, move in ((0, ("note",)), (1, ("note",)), (0, ("word", 1, "sure")), (1, ("word", 1, "sure")),
                         (2, ("word", 1, "sure")), (3, ("word", 1, "sure")), (3, ("set", "key")), (2, ("set", "note"))):
            rules = Rules(LOOK, {**CAREFUL.courses, (1, "sure"): (*course[:at], move, *course[at:])})
            for shapes in (1, 2, 3):
                for price in (0, 100):
                    self.assertEqual(trimmed(rules, shapes, price), trimmed_plainly(rules, shapes, price))
                    # Of two notes the last one is left out, though it stood there first.
                    if shapes > 1 and (at, move) != (0, ("note",)):
                        self.assertEqual(trimmed(rules, shapes, price), trimmed(CAREFUL, shapes, price), (at, move))

    def test_the_price_decides(self):
        """What writes for others costs moves, and it saves them the price."""
        never = Rules(LOOK, {(1, "plain"): LATE, (1, "busy"): OUT,
                             (1, "sure"): (("key", LATE), ("note",), ("trust",), ("out",))})
        for shapes in (2, 3):
            self.assertEqual(trimmed(CAREFUL, shapes, 0), never)
            self.assertEqual(trimmed(CAREFUL, shapes, 1), never)
            self.assertEqual(trimmed(CAREFUL, shapes, 3), CAREFUL)
            self.assertEqual(trimmed(CAREFUL, shapes, 100), CAREFUL)
        alone = trimmed(CAREFUL, 1, 100)
        self.assertEqual(alone.courses[(1, "plain")], (("do", 1), ("set", "note"), ("word", 1, "sure"), ("out",)))
        self.assertEqual(alone.courses[(1, "sure")], (("note",), ("trust",), ("out",)))

    def test_dearer_by_one_and_once(self):
        """Without the key of the first visit the second one sets it, and is dearer by the price less one move."""
        again = (("do", 1), ("set", "key"), ("out",))
        rules = Rules(LOOK, {(1, "plain"): (("do", 1), ("set", "note"), ("set", "key"), ("word", 1, "sure"), ("out",)),
                             (1, "sure"): (("key", again), ("note",), ("trust",), ("out",))})
        place = (1, "plain", (2,))
        self.assertEqual([never_dearer(rules.without(place), rules, 1, 2, amount)[0] for amount in (0, 1)], ["no", "yes"])
        # One more move, once, is one too many.
        courses = {**given_up().courses, (1, "busy"): (("do", 1), ("note",), ("out",))}
        for other in (rules, given_up(), Rules(LOOK, courses)):
            for shapes in (1, 2):
                for price in (0, 1, 2, 3):
                    if verdict(other, shapes)[0] == "right":
                        self.assertEqual(trimmed(other, shapes, price), trimmed_plainly(other, shapes, price))

    def test_two_moves_each_of_which_can_be_left_out_and_not_both(self):
        """With one shape what is trusted must be noted, or there must be no key by which one comes to trust."""
        rules = Rules(LOOK, {(1, "plain"): (("do", 1), ("set", "note"), ("note",), ("word", 1, "sure"), ("out",)),
                             (1, "sure"): (("key", LATE), ("note",), ("trust",), ("out",))})
        told = spare(rules, 1)
        both = ((1, "plain", (1,)), (1, "sure", (0,)))
        for place in both:
            self.assertIn(place, told)
        self.assertEqual(verdict(rules.without(both[0]).without(both[1]), 1)[0], "wrong")
        for price in (0, 1, 2, 100):
            left = trimmed(rules, 1, price)
            self.assertEqual(left, trimmed_plainly(rules, 1, price))
            self.assertEqual(verdict(left, 1)[0], "right")
            # Not both are gone.
            self.assertTrue(("set", "note") in left.courses[(1, "plain")] or ("key", LATE) in left.courses[(1, "sure")])

    def test_many_rules(self):
        changed = 0
        for number in range(120):
            rules, shapes = made(number, most=24), 1 + number % 3
            if verdict(rules, shapes)[0] == "right":
                price = (0, 1, 4, 100)[number % 4]
                left = trimmed(rules, shapes, price)
                self.assertEqual(left, trimmed_plainly(rules, shapes, price), number)
                self.assertEqual(left.closed, rules.closed)
                changed += left != rules
        self.assertGreater(changed, 20)

    def test_by_name_and_again(self):
        rules = given_up()
        self.assertEqual(spare(rules=rules, shapes=2), spare(rules, 2))
        self.assertEqual(swappable(rules=rules, shapes=2), swappable(given_up(), 2))
        self.assertEqual(trimmed(rules=rules, shapes=2, price=3), trimmed(rules, 2, 3))
        told = spare(rules, 2)
        told.clear()
        self.assertEqual(spare(rules, 2), spare(given_up(), 2))
        self.assertEqual(rules, given_up())


class ErrorsTest(unittest.TestCase):
    CALLS = (spare, swappable, lambda rules, shapes: trimmed(rules, shapes, 3))

    def test_no_number_of_shapes(self):
        for call in self.CALLS:
            for rules in (CAREFUL, ladder(2)):
                for value in [*odd_values(), 0, 4, "1", 10**59]:
                    with self.assertRaises(BadShapes) as caught:
                        call(rules, value)
                    self.assertIs(caught.exception.value, value)

    def test_rules_that_are_not_right(self):
        hasty = Rules.hasty()
        wrong = [(hasty, 2), (hasty, 3), (ladder(2), 1), (ladder(5), 2), (with_course(LOOK, (1, "plain"), OUT), 1)]
        for call in self.CALLS:
            for rules, shapes in wrong:
                with self.assertRaises(NotRight) as caught:
                    call(rules, shapes)
                self.assertIs(caught.exception.value, rules)
            call(hasty, 1)


if __name__ == "__main__":
    unittest.main()
