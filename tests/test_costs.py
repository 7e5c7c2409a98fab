"""Point [14] and the heading of warmsteps/costs.py: visited, never_dearer, is_heights, is_dearer, greatest_lead."""

import random
import unittest

from tests import plain
from tests.large import right_look, right_two_cells
from tests.making import made
from tests.samples import (ADD_TELL, LATE, LOOK, LOOK_ADD, OUT, deep, fused, given_up, ladder, odd_values, two_cells,
                           with_course, with_part)
from warmsteps.costs import greatest_lead, is_dearer, is_heights, never_dearer, visited
from warmsteps.errors import BadShapes, GoneWrong, NotRight, OtherPattern
from warmsteps.rules import Rules
from warmsteps.steps import beginning

CAREFUL, PLAIN = Rules.careful(), Rules.plain(LOOK)
HUGE = 10**59
TRUSTING = (("note",), ("trust",), ("out",))
WRITING = (("do", 1), ("set", "note"), ("word", 1, "sure"), ("out",))
QUICK = Rules(LOOK, {(1, "plain"): WRITING, (1, "sure"): TRUSTING})


def slow(*, more=()):
    """Rules for one shape that trust two visits later than QUICK; with more moves on the second visit."""
    return Rules(LOOK, {(1, "plain"): (("do", 1), ("set", "note"), ("word", 1, "a"), ("out",)),
                        (1, "a"): (*more, ("do", 1), ("word", 1, "b"), ("out",)),
                        (1, "b"): (("do", 1), ("word", 1, "sure"), ("out",)), (1, "sure"): TRUSTING})


def padded(rules, key, many):
    """The rules with so many moves that do nothing ahead of a course."""
    courses = rules.courses
    courses[key] = (("word", key[0], "plain"),) * many + courses[key] if key[1] == "plain" else courses[key]
    return Rules(rules.pattern, courses, closed=rules.closed)


def lead_of(one, other, shapes, price, visits):
    """By how much the first costs more after each of the beginnings of visits."""
    first, second, lead, leads = beginning(one), beginning(other), 0, []
    for visit in visits:
        first, cost = plain.visit(one, first, visit, price)
        second, less = plain.visit(other, second, visit, price)
        lead += cost - less
        leads.append(lead)
    return leads


class VisitedTest(unittest.TestCase):
    def test_what_it_costs(self):
        start = beginning(CAREFUL)
        self.assertEqual(visited(CAREFUL, start, (1, 1), 3), (("sure", "", 1, 1), 10))
        self.assertEqual(visited(CAREFUL, start, (1, 2), 0), (("sure", "", 2, 2), 7))
        self.assertEqual(visited(CAREFUL, ("sure", "", 2, 2), (1, 2), 100), (("sure", "", 2, 2), 5))
        self.assertEqual(visited(CAREFUL, ("sure", "", 2, 2), (1, 1), 100), (("sure", "", 2, 2), 104))
        self.assertEqual(visited(rules=PLAIN, standing=beginning(PLAIN), visit=(1, 3), price=1),
                         (("plain", "", 0, 0), 4))
        self.assertIs(type(visited(CAREFUL, start, (1, 1), 3)), tuple)

    def test_a_second_cell(self):
        for closed in (False, True):
            rules = Rules(LOOK_ADD, Rules.plain(LOOK_ADD).courses, closed=closed)
            # It comes, does, goes on, reads, does, and goes out; the price is one for the look alone.
            self.assertEqual(visited(rules, beginning(rules), (1, 2), 50), (("plain", "plain", 0, 0), 56))
        self.assertEqual(visited(Rules.plain(LOOK_ADD), ("plain", "plain", 0, 0), (2, 0), 50),
                         (("plain", "plain", 0, 0), 3))
        for pattern in (ADD_TELL, ("take", "take")):
            rules = Rules.plain(pattern)
            self.assertEqual(visited(rules, beginning(rules), (1, 0), 100), (beginning(rules), 6))
            self.assertEqual(visited(rules, beginning(rules), (2, 0), 100), (beginning(rules), 3))

    def test_do_in_an_other_course(self):
        rules = with_course(LOOK, (1, "plain"), (("is", 1, "a", (("key", OUT), *LATE)), ("trust",), ("out",)),
                            words=[(1, "a")])
        # It comes, asks for the word, asks for the key, does, and goes out.
        self.assertEqual(visited(rules, ("plain", "", 1, 0), (1, 1), 7), (("plain", "", 1, 0), 12))

    def test_a_visit_that_goes_wrong(self):
        rules = with_course(LOOK_ADD, (2, "plain"), (("word", 1, "plain"), ("do", 1), ("out",)))
        state = (2, (("do", 1), ("out",)), 0, 0, (2,))
        with self.assertRaises(GoneWrong) as caught:
            visited(rules, beginning(rules), (2, 0), 3)
        self.assertEqual(caught.exception.hand, state)
        with self.assertRaises(GoneWrong) as caught:
            visited(Rules.careful(), ("sure", "", 1, 2), (1, 1), 3)
        self.assertEqual(caught.exception.hand, (1, (("trust",), ("out",)), 1, 2, (1,)))

    def test_many_rules(self):
        for number in range(120):
            rules = made(number)
            standing = beginning(rules)
            for _ in range(6):
                for visit in plain.visits(rules, 2):
                    told = plain.visit(rules, standing, visit, number % 7)
                    if told is None:
                        with self.assertRaises(GoneWrong):
                            visited(rules, standing, visit, number % 7)
                    else:
                        self.assertEqual(visited(rules, standing, visit, number % 7), told)
                        standing = told[0]


class NeverDearerTest(unittest.TestCase):
    def check(self, one, other, shapes, price, amount):
        """Whether it is never dearer; what is told must show it."""
        told = never_dearer(one, other, shapes, price, amount)
        self.assertIs(type(told), tuple)
        word, shown = told
        self.assertIs(type(shown), list)
        self.assertEqual(is_heights(one, other, shapes, price, amount, shown), word == "yes")
        self.assertEqual(is_dearer(one, other, shapes, price, amount, shown), word == "no")
        if word == "yes":
            self.assertTrue(plain.shows(one, other, shapes, price, amount, shown))
            self.assertTrue(all(-10**8 <= height <= amount for _, _, height in shown))
        else:
            self.assertEqual(word, "no")
            leads = lead_of(one, other, shapes, price, shown)
            self.assertGreater(leads[-1], amount)
            self.assertTrue(all(lead <= amount for lead in leads[:-1]))
        return word == "yes"

    def test_the_document(self):
        self.assertEqual([greatest_lead(CAREFUL, PLAIN, 1, 3), greatest_lead(CAREFUL, PLAIN, 2, 3),
                          never_dearer(CAREFUL, PLAIN, 1, 3, 3)], [4, None, ("no", [(1, 1)])])

    def test_amounts_about_the_greatest_lead(self):
        cases = [(CAREFUL, PLAIN, 1, 3), (PLAIN, CAREFUL, 1, 0), (CAREFUL, CAREFUL, 3, 100), (QUICK, PLAIN, 1, 1),
                 (slow(), QUICK, 1, 100), (given_up(), PLAIN, 1, 100), (right_look(), PLAIN, 1, 40)]
        for one, other, shapes, price in cases:
            lead = greatest_lead(one, other, shapes, price)
            if lead is None:
                for amount in (0, 7, 200):
                    self.assertFalse(self.check(one, other, shapes, price, amount))
            else:
                for amount in sorted({0, max(0, lead - 1), lead, lead + 1, 200}):
                    self.assertEqual(self.check(one, other, shapes, price, amount), amount >= lead)

    def test_leads_of_200_and_201(self):
        for more, price, lead in ((0, 100, 200), (1, 100, None), (1, 99, 199), (2, 99, 200), (3, 99, None)):
            one = slow(more=(("wipe", "key"),) * more)
            self.assertEqual(greatest_lead(one, QUICK, 1, price), lead)
            self.assertEqual(self.check(one, QUICK, 1, price, 200), lead is not None)
            self.assertEqual(self.check(one, QUICK, 1, price, 2 * price + more), True)

    def test_leads_without_end(self):
        longer = padded(PLAIN, (1, "plain"), 1)
        for shapes in (1, 2, 3):
            for price in (0, 1, 100):
                self.assertIsNone(greatest_lead(longer, PLAIN, shapes, price))
                self.assertEqual(greatest_lead(PLAIN, longer, shapes, price), 0)
                for amount in (0, 1, 200):
                    self.assertFalse(self.check(longer, PLAIN, shapes, price, amount))
                    self.assertTrue(self.check(PLAIN, longer, shapes, price, amount))
                self.assertEqual(len(never_dearer(longer, PLAIN, shapes, price, 200)[1]), 201)

    def test_a_lead_that_is_behind_first(self):
        """The first rules save much at first, so that it takes many visits until they are dearer."""
        saving = Rules(LOOK, {(1, "plain"): LATE[:1] + (("word", 1, "a"), ("out",)),
                              (1, "a"): (("wipe", "key"), *LATE)})
        wasting = Rules(LOOK, {(1, "plain"): (("wipe", "key"),) * 9 + (("do", 1), ("word", 1, "a"), ("out",)),
                               (1, "a"): LATE})
        self.assertFalse(self.check(saving, wasting, 2, 5, 0))
        self.assertEqual(len(never_dearer(saving, wasting, 2, 5, 0)[1]), 11)
        self.assertIsNone(greatest_lead(saving, wasting, 2, 5))

    def test_patterns_of_each_kind(self):
        for pattern in (LOOK, LOOK_ADD, ADD_TELL, ("take", "add"), ("tell", "take")):
            for closed in (False, True):
                rules = Rules(pattern, Rules.plain(pattern).courses, closed=closed)
                longer = padded(rules, (len(pattern), "plain"), 2)
                for shapes in (1, 2, 3):
                    self.assertTrue(self.check(rules, longer, shapes, 1, 0))
                    self.assertFalse(self.check(longer, rules, shapes, 1, 5))
                    self.assertEqual(greatest_lead(rules, rules, shapes, 100), 0)
        both = Rules(ADD_TELL, Rules.plain(ADD_TELL).courses, closed=True)
        self.assertEqual(greatest_lead(fused(closed=True), both, 1, 0), 0)
        self.assertEqual(greatest_lead(both, two_closed(), 1, 0), 0)

    def test_against_all_rows_of_visits(self):
        chance = random.Random(4)
        known = {}
        compared = {"lead": 0, "none": 0}
        for number in range(300):
            rules = made(number, most=20)
            shapes = 1 + number % 2
            if plain.is_right_alone(rules, shapes):
                known.setdefault((rules.pattern, rules.closed, shapes), []).append(rules)
        for (_, _, shapes), group in known.items():
            for _ in range(20):
                one, other = chance.choice(group), chance.choice(group)
                price = chance.choice([0, 1, 3, 100])
                told = greatest_lead(one, other, shapes, price)
                most = plain.most_lead(one, other, shapes, price, 40)
                if told is None:
                    compared["none"] += 1
                    self.assertFalse(self.check(one, other, shapes, price, 200))
                else:
                    compared["lead"] += 1
                    self.assertEqual(most, told)
                    self.assertTrue(self.check(one, other, shapes, price, told))
                    if told:
                        self.assertFalse(self.check(one, other, shapes, price, told - 1))
        self.assertGreater(min(compared.values()), 15)

    def test_rules_that_go_wrong_for_two_hands_alone_are_answered(self):
        self.assertEqual(greatest_lead(Rules.hasty(), CAREFUL, 2, 1), 0)
        self.assertEqual(greatest_lead(ladder(2), ladder(2), 2, 1), 0)
        self.assertTrue(self.check(Rules.hasty(), CAREFUL, 3, 100, 0))
        self.assertFalse(self.check(CAREFUL, Rules.hasty(), 3, 100, 0))

    def test_forty_moves_and_three_shapes(self):
        self.assertIsNone(greatest_lead(right_look(), PLAIN, 3, 2))
        self.assertFalse(self.check(right_look(), PLAIN, 3, 2, 200))
        two = right_two_cells()
        self.assertEqual(self.check(two, Rules.plain(LOOK_ADD), 3, 100, 200),
                         greatest_lead(two, Rules.plain(LOOK_ADD), 3, 100) is not None)

    def test_what_is_told_is_new_and_the_same_each_time(self):
        one, other = slow(), QUICK
        word, shown = never_dearer(one=one, other=other, shapes=1, price=3, amount=200)
        again = never_dearer(one, other, 1, 3, 200)
        self.assertEqual(again, (word, shown))
        self.assertIsNot(again[1], shown)
        shown.clear()
        self.assertEqual(never_dearer(slow(), other, 1, 3, 200), again)
        self.assertEqual(greatest_lead(one=one, other=other, shapes=1, price=3), greatest_lead(slow(), QUICK, 1, 3))
        self.assertEqual(one, slow())


def two_closed():
    """Closed rules for an add and a tell with more moves."""
    return padded(Rules(ADD_TELL, Rules.plain(ADD_TELL).courses, closed=True), (2, "plain"), 3)


class JudgedTest(unittest.TestCase):
    def heights(self, one=CAREFUL, other=PLAIN, shapes=1, price=3, amount=4):
        word, heights = never_dearer(one, other, shapes, price, amount)
        self.assertEqual(word, "yes")
        return heights

    def test_heights(self):
        heights = self.heights()
        start = heights[0]
        self.assertEqual(start[:2], (beginning(CAREFUL), beginning(PLAIN)))
        self.assertEqual(len(heights), 2)

        def judged(value, amount=4):
            return is_heights(CAREFUL, PLAIN, 1, 3, amount, value)
        self.assertIs(judged(heights), True)
        self.assertIs(judged(heights[::-1]), True)
        self.assertIs(judged(heights, 3), False)
        self.assertIs(judged(heights, 200), True)
        for at, height in enumerate(heights):
            self.assertIs(judged(heights[:at] + heights[at + 1:]), False)
            self.assertIs(judged([*heights, height]), False)
            self.assertIs(judged([*heights, with_part(height, 2, height[2] - 1)]), False)
            for part in odd_values():
                for place in range(3):
                    if not (place == 2 and type(part) is int):
                        self.assertIs(judged([*heights[:at], with_part(height, place, part), *heights[at + 1:]]), False)
                if part != height:
                    self.assertIs(judged([*heights, part]), False)
            self.assertIs(judged([*heights[:at], list(height), *heights[at + 1:]]), False)
            self.assertIs(judged([*heights[:at], (*height, 0), *heights[at + 1:]]), False)
            self.assertIs(judged([*heights[:at], height[:2], *heights[at + 1:]]), False)
        for more, amount, expected in ((1, 4, False), (1, 5, True), (-1, 200, False), (196, 200, True),
                                       (197, 200, False), (HUGE, 200, False), (-HUGE, 200, False)):
            raised = [with_part(height, 2, height[2] + more) for height in heights]
            self.assertIs(judged(raised, amount), expected)
        # The second one alone may stand higher, but not lower; the first one may not stand higher alone.
        self.assertIs(judged([start, with_part(heights[1], 2, 3)], 200), False)
        self.assertIs(judged([start, with_part(heights[1], 2, 5)], 200), True)
        self.assertIs(judged([with_part(start, 2, 1), heights[1]], 200), False)

    def test_heights_of_what_never_stands(self):
        heights = self.heights()
        plain_start = beginning(PLAIN)
        more = (("busy", "", 0, 0), plain_start, -50)
        # A hand that comes to "busy" alone just does it, which costs the same as the plain one.
        self.assertIs(is_heights(CAREFUL, PLAIN, 1, 3, 4, [*heights, more]), True)
        self.assertIs(is_heights(CAREFUL, PLAIN, 1, 3, 4, [*heights, with_part(more, 2, 4)]), True)
        self.assertIs(is_heights(CAREFUL, PLAIN, 1, 3, 4, [*heights, with_part(more, 2, 5)]), False)
        # Behind a visit that goes wrong there are no standings.
        wrong = (("sure", "", 1, 0), plain_start, -50)
        self.assertIs(is_heights(CAREFUL, PLAIN, 1, 3, 4, [*heights, wrong]), False)
        # What stands behind it is not there.
        self.assertIs(is_heights(CAREFUL, PLAIN, 1, 3, 4, [*heights, (("busy", "", 1, 0), plain_start, -50)]), True)
        self.assertIs(is_heights(CAREFUL, PLAIN, 1, 3, 4, [*heights, (("plain", "", 1, 0), plain_start, -50)]), True)
        self.assertIs(is_heights(CAREFUL, PLAIN, 2, 3, 4, heights), False)

    def test_values_that_are_no_heights(self):
        for value in [*odd_values(), tuple(self.heights()), {1: self.heights()}, deep(list, 30)]:
            self.assertIs(is_heights(CAREFUL, PLAIN, 1, 3, 4, value), False)
            self.assertIs(is_dearer(CAREFUL, PLAIN, 1, 3, 4, value), False)

    def test_visits(self):
        def judged(value, amount=3, shapes=2):
            return is_dearer(CAREFUL, PLAIN, shapes, 3, amount, value)
        self.assertIs(judged([(1, 1)]), True)
        self.assertIs(judged([(1, 2)]), True)
        self.assertIs(judged([(1, 2)], shapes=1), False)
        self.assertIs(judged([(1, 1)], 4), False)
        # With the other shape it comes, asks, and does: one more each time; with its own it saves two.
        self.assertIs(judged([(1, 1), (1, 2)], 4), True)
        self.assertIs(judged([(1, 1), (1, 2)], 3), False)
        self.assertIs(judged([(1, 1), (1, 1), (1, 2), (1, 2), (1, 2)], 4), judged_plainly(4))
        self.assertIs(judged([], 0), False)
        self.assertIs(judged(((1, 1),)), False)
        for part in [*[part for part in odd_values() if part != (1, 1)], (1, True), (True, 1), (1, 0), (2, 0), (0, 1), (1, 3), (1, HUGE), (1,), (1, 1, 1),
                     [1, 1], (-1, 1), (1, -1)]:
            self.assertIs(judged([part]), False)
            self.assertIs(judged([(1, 1), part], 4), False)
            self.assertIs(judged([part, (1, 1)]), False)

    def test_visits_at_the_second_cell(self):
        for closed in (False, True):
            rules = Rules(LOOK_ADD, Rules.plain(LOOK_ADD).courses, closed=closed)
            longer = padded(rules, (2, "plain"), 1)
            self.assertIs(is_dearer(longer, rules, 1, 0, 0, [(2, 0)]), not closed)
            self.assertIs(is_dearer(longer, rules, 1, 0, 0, [(1, 1)]), True)
            self.assertIs(is_dearer(longer, rules, 1, 0, 1, [(1, 1), (2, 0)]), not closed)
            for visit in ((2, 1), (1, 0), (3, 0), (2, False)):
                self.assertIs(is_dearer(longer, rules, 1, 0, 0, [visit]), False)
        sums = Rules.plain(ADD_TELL)
        longer = padded(sums, (1, "plain"), 1)
        self.assertIs(is_dearer(longer, sums, 3, 0, 0, [(1, 0)]), True)
        self.assertIs(is_dearer(longer, sums, 3, 0, 0, [(1, 1)]), False)
        self.assertIs(is_dearer(longer, sums, 3, 0, 0, [(2, 0)]), False)


def judged_plainly(amount):
    """Whether the leads of some visits are above the amount behind the last one, and no sooner."""
    leads = lead_of(CAREFUL, PLAIN, 2, 3, [(1, 1), (1, 1), (1, 2), (1, 2), (1, 2)])
    return leads[-1] > amount and max(leads[:-1]) <= amount


class ErrorsTest(unittest.TestCase):
    CALLS = {
        "never_dearer": lambda one, other, shapes: never_dearer(one, other, shapes, 3, 0),
        "is_heights": lambda one, other, shapes: is_heights(one, other, shapes, 3, 0, []),
        "is_dearer": lambda one, other, shapes: is_dearer(one, other, shapes, 3, 0, []),
        "greatest_lead": lambda one, other, shapes: greatest_lead(one, other, shapes, 3),
    }

    def refused(self, error, value, one, other, shapes):
        for call in self.CALLS.values():
            with self.assertRaises(error) as caught:
                call(one, other, shapes)
            self.assertIs(caught.exception.value, value)

    def test_another_pattern(self):
        closed = Rules(LOOK, PLAIN.courses, closed=True)
        for one, other in ((CAREFUL, Rules.plain(LOOK_ADD)), (Rules.plain(LOOK_ADD), CAREFUL), (CAREFUL, closed),
                           (closed, PLAIN), (Rules.plain(ADD_TELL), Rules.plain(("add", "add")))):
            self.refused(OtherPattern, other, one, other, 2)
            # It is named ahead of all others.
            self.refused(OtherPattern, other, one, other, None)
        wrong = with_course(LOOK, (1, "plain"), OUT)
        self.refused(OtherPattern, closed, wrong, closed, 0)

    def test_no_number_of_shapes(self):
        wrong = with_course(LOOK, (1, "plain"), OUT)
        for value in [*odd_values(), 0, 4, "1", HUGE]:
            self.refused(BadShapes, value, CAREFUL, PLAIN, value)
            self.refused(BadShapes, value, wrong, PLAIN, value)

    def test_not_right_for_one_hand(self):
        wrong, other = with_course(LOOK, (1, "plain"), OUT), with_course(LOOK, (1, "plain"), OUT, words=[(1, "a")])
        for shapes in (1, 2, 3):
            self.refused(NotRight, wrong, wrong, PLAIN, shapes)
            self.refused(NotRight, wrong, PLAIN, wrong, shapes)
            self.refused(NotRight, wrong, wrong, other, shapes)
            self.refused(NotRight, other, other, wrong, shapes)

    def test_not_right_for_more_shapes(self):
        """One hand alone writes what it trusts with another shape later."""
        self.refused(NotRight, QUICK, QUICK, PLAIN, 2)
        self.refused(NotRight, QUICK, PLAIN, QUICK, 3)
        self.assertEqual(greatest_lead(QUICK, PLAIN, 1, 3), 2)

    def test_a_hand_that_comes_to_the_second_cell(self):
        wrong = fused(closed=False)
        self.refused(NotRight, wrong, wrong, Rules.plain(ADD_TELL), 1)
        closed = Rules(ADD_TELL, Rules.plain(ADD_TELL).courses, closed=True)
        self.assertIs(is_dearer(fused(closed=True), closed, 1, 3, 0, []), False)


if __name__ == "__main__":
    unittest.main()
