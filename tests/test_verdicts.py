"""Points [9], [10], [11], [15] and the heading of warmsteps/verdicts.py: verdict, is_rows, is_weaving."""

import random
import unittest
from unittest import mock

from tests import plain
from tests.large import many_rows, right_look, right_two_cells, wrong_by_four
from tests.making import made
from tests.samples import (ADD_TELL, LATE, LOOK, LOOK_ADD, OUT, fused, given_up, ladder, odd_values, queue, reread,
                           two_cells, with_course, with_part)
from warmsteps.errors import BadShapes
from warmsteps.least import least_weaving
from warmsteps.rules import Rules
from warmsteps.steps import arrivals, beginning, is_row
from warmsteps.verdicts import is_rows, is_weaving, verdict

RIGHT = [Rules.careful(), given_up(), given_up(words=6), queue(), fused(closed=True), two_cells(),
         two_cells(closed=True), Rules.plain(LOOK), Rules.plain(LOOK_ADD), Rules.plain(("take", "tell"))]
WRONG = [with_course(LOOK, (1, "plain"), OUT), with_course(LOOK_ADD, (2, "plain"), LATE), fused(closed=False),
         with_course(ADD_TELL, (1, "plain"), (("do", 1), ("on",)), closed=True), ladder(2), ladder(3), ladder(4),
         ladder(5), ladder(6)]

# Two hands at most claim, one after the other, and stay behind it in the same state.
TWO = Rules(LOOK, {(1, "plain"): (("claim", 1, "plain", "a", LATE), ("note",), ("do", 1), ("out",)),
                   (1, "a"): (("claim", 1, "a", "b", LATE), ("note",), ("do", 1), ("out",)), (1, "b"): LATE})
HELD, NOTED = (1, (("note",), *LATE), 1, 0, (1,)), (1, OUT, 1, 0, ())


def two_rows():
    """A right list of rows for TWO and one shape, that counts hands."""
    first, second, late = arrivals_of(TWO, "plain"), arrivals_of(TWO, "a"), (1, LATE, 1, 0, (1,))
    many = tuple(sorted([first, late, NOTED]))
    more = tuple(sorted([first, second, late, NOTED]))
    return [(("plain", "", 0, 0), many, ()), (("a", "", 0, 0), more, (HELD,)), (("b", "", 0, 0), more, (HELD, HELD))]


def arrivals_of(rules, word):
    """The state of a hand with shape 1 that has come to a word of the first cell."""
    return arrivals(rules, 1, (word, *beginning(rules)[1:]))[0]


def all_rows(rules, shapes, standings):
    """Rows of these standings with all states of hands that one could think of, so that nothing is left to be added."""
    found = {}
    waiting = [state for standing in standings for state in arrivals(rules, shapes, standing)]
    while waiting:
        state = waiting.pop()
        if state not in found:
            found[state] = True
            ends = [plain.behind(rules, standing, state) for standing in standings]
            waiting.extend(end[1] for end in ends if end is not None and end[1] is not None)
    return [(standing, tuple(sorted(found)), ()) for standing in standings]


class VerdictTest(unittest.TestCase):
    def check(self, rules, shapes):
        """The verdict's word; what it shows must show it."""
        told = verdict(rules, shapes)
        self.assertIsInstance(told, tuple)
        self.assertEqual(len(told), 2)
        word, shown = told
        self.assertIs(type(shown), list)
        if word == "right":
            self.assertTrue(all(is_row(rules, shapes, row) for row in shown))
            self.assertIs(is_rows(rules, shapes, shown), True)
            self.assertIs(is_weaving(rules, shapes, shown), False)
            if len(shown) < 500:
                self.assertTrue(plain.is_right_list(rules, shapes, shown))
        else:
            self.assertEqual(word, "wrong")
            self.assertIs(is_weaving(rules, shapes, shown), True)
            self.assertIs(is_rows(rules, shapes, shown), False)
            self.assertTrue(plain.is_wrong_weaving(rules, shapes, shown))
            self.assertLessEqual(max(event[0] for event in shown), 10**8)
        return word

    def test_the_document(self):
        self.assertEqual([verdict(Rules.careful(), 3)[0], verdict(Rules.hasty(), 1)[0], verdict(Rules.hasty(), 2)[0]],
                         ["right", "right", "wrong"])

    def test_right_for_any_number_of_hands_and_shapes(self):
        for rules in RIGHT:
            for shapes in (1, 2, 3):
                self.assertEqual(self.check(rules, shapes), "right")

    def test_wrong_for_any_number_of_shapes(self):
        for rules in WRONG:
            for shapes in (1, 2, 3):
                self.assertEqual(self.check(rules, shapes), "wrong")

    def test_right_for_one_shape_and_wrong_for_two(self):
        for rules in (Rules.hasty(), reread()):
            self.assertEqual([self.check(rules, shapes) for shapes in (1, 2, 3)], ["right", "wrong", "wrong"])

    def test_as_many_hands_as_are_needed(self):
        for many in range(2, 7):
            self.assertEqual(self.check(ladder(many), 1), "wrong")
            hands = {event[0] for event in verdict(ladder(many), 1)[1]}
            self.assertGreaterEqual(len(hands), many)

    def test_the_last_rung_away(self):
        for many in range(2, 7):
            courses = ladder(many).courses
            last = ("plain", "a", "b", "c", "d", "e")[many - 1]
            courses[(1, last)] = LATE
            self.assertEqual(self.check(Rules(LOOK, courses), 3), "right")

    def test_many_rules(self):
        words = {}
        for number in range(300):
            rules, shapes = made(number, changes=6), 1 + number % 3
            word = self.check(rules, shapes)
            words[(word, rules.closed, len(rules.pattern))] = True
            if len(rules) < 24 and shapes == 1:
                found = plain.search(rules, shapes, 2)
                if found is not None:
                    self.assertEqual(word, "wrong")
                if word == "right":
                    self.assertIsNone(found)
        # Right and wrong ones of one cell, and of two cells, open and closed.
        self.assertEqual(len(words), 6)

    def test_a_wrong_weaving_stays_one(self):
        """With more shapes, with shapes exchanged for others, and for the same rules not closed [15]."""
        for number in range(200):
            rules, shapes = made(number, changes=6), 1 + number % 3
            word, weaving = verdict(rules, shapes)
            if word == "wrong":
                self.assertTrue(is_weaving(rules, 3, weaving))
                turned = [(*event[:2], 4 - event[2]) if event[2:] and event[2] else event for event in weaving]
                self.assertTrue(is_weaving(rules, 3, turned))
                self.assertTrue(is_weaving(Rules(rules.pattern, rules.courses), shapes, weaving))

    def test_the_names_of_words_mean_nothing(self):
        for rules, shapes in ((Rules.hasty(), 2), (Rules.careful(), 2), (ladder(3), 1), (given_up(), 2)):
            courses = eval(repr(rules.courses).replace("'sure'", "'aaa'").replace("'busy'", "'zzz'"))
            other = Rules(rules.pattern, courses)
            self.assertEqual(self.check(other, shapes), self.check(rules, shapes))
            if verdict(rules, shapes)[0] == "wrong":
                self.assertTrue(is_weaving(other, shapes, verdict(rules, shapes)[1]))

    def test_forty_moves_six_words_and_three_shapes(self):
        for rules, word in ((right_look(), "right"), (right_two_cells(), "right"), (wrong_by_four(), "wrong")):
            self.assertEqual([len(rules), len(rules.words(1))], [40, 6])
            for shapes in (1, 2, 3):
                self.assertEqual(self.check(rules, shapes), word)

    def test_thousands_of_rows(self):
        self.assertEqual(self.check(many_rows(), 3), "right")

    def test_weavings_that_are_too_long_for_the_first_search(self):
        with mock.patch("warmsteps.verdicts.MANY_EVENTS", 0):
            for many in (2, 3, 4):
                self.assertEqual(verdict(ladder(many), 2), ("wrong", least_weaving(ladder(many), 2)))
            for many in (5, 6):
                self.assertEqual(self.check(ladder(many), 2), "wrong")
            for rules in (Rules.careful(), given_up(), queue(), right_look()):
                self.assertEqual(self.check(rules, 2), "right")

    def test_shapes_are_judged(self):
        rules = Rules.hasty()
        for shapes in [0, *odd_values()]:
            for call in (verdict, lambda *args: is_rows(*args, None), lambda *args: is_weaving(*args, [])):
                with self.assertRaises(BadShapes) as held:
                    call(rules, shapes)
                self.assertIs(held.exception.value, shapes)

    def test_arguments_by_name(self):
        rules = Rules.careful()
        rows = verdict(shapes=1, rules=rules)[1]
        self.assertIs(is_rows(value=rows, shapes=1, rules=rules), True)
        self.assertIs(is_weaving(value=rows, shapes=1, rules=rules), False)

    def test_equal_and_new_each_time(self):
        for rules in (Rules.careful(), Rules.hasty(), ladder(5), many_rows()):
            first, second = verdict(rules, 2), verdict(rules, 2)
            self.assertEqual(first, second)
            self.assertIsNot(first[1], second[1])
            first[1].clear()
            self.assertEqual(verdict(rules, 2), second)


class RowsTest(unittest.TestCase):
    def test_a_list_by_hand(self):
        self.assertTrue(plain.is_right_list(TWO, 1, two_rows()))
        self.assertIs(is_rows(TWO, 1, two_rows()), True)
        late = (1, LATE, 1, 0, (1,))
        rows = [(("plain", "", 0, 0), tuple(sorted([late, NOTED])), ())]
        self.assertIs(is_rows(Rules.plain(LOOK), 1, rows), True)

    def test_states_in_few_as_often_as_they_must_be(self):
        for many, right in ((0, False), (1, False), (2, True), (3, True), (5, True)):
            rows = two_rows()
            rows[2] = with_part(rows[2], 2, (HELD,) * many)
            self.assertIs(is_rows(TWO, 1, rows), right)
            self.assertIs(plain.is_right_list(TWO, 1, rows), right)
        rows = two_rows()
        rows[1] = with_part(rows[1], 2, (HELD, HELD))
        # One hand more at the second word is one more at the third one.
        self.assertIs(is_rows(TWO, 1, rows), False)
        rows[2] = with_part(rows[2], 2, (HELD, HELD, HELD))
        self.assertIs(is_rows(TWO, 1, rows), True)

    def test_states_in_many_that_were_in_few(self):
        rows = two_rows()
        standing, many, few = rows[2]
        rows[2] = (standing, tuple(sorted([*many, HELD])), ())
        self.assertIs(is_rows(TWO, 1, rows), True)
        rows[1] = (rows[1][0], tuple(sorted([*rows[1][1], HELD])), ())
        self.assertIs(is_rows(TWO, 1, rows), True)
        rows[2] = two_rows()[2]
        self.assertIs(is_rows(TWO, 1, rows), False)

    def test_a_row_too_few(self):
        for rules, shapes in ((Rules.careful(), 3), (given_up(), 2), (TWO, 1), (queue(), 1), (fused(closed=True), 1)):
            rows = verdict(rules, shapes)[1]
            for at in range(len(rows)):
                less = rows[:at] + rows[at + 1:]
                self.assertIs(is_rows(rules, shapes, less), plain.is_right_list(rules, shapes, less))
        rows = two_rows()
        for at in range(3):
            self.assertIs(is_rows(TWO, 1, rows[:at] + rows[at + 1:]), False)

    def test_twice_and_in_another_sequence(self):
        chance = random.Random(3)
        for rules, shapes in ((Rules.careful(), 3), (given_up(), 2), (two_cells(), 1), (right_two_cells(), 2)):
            rows = verdict(rules, shapes)[1]
            for row in rows:
                self.assertIs(is_rows(rules, shapes, [*rows, row]), True)
            self.assertIs(is_rows(rules, shapes, rows[::-1]), True)
            chance.shuffle(rows)
            self.assertIs(is_rows(rules, shapes, rows), True)

    def test_rows_that_cover_more_than_must_be(self):
        rules = Rules.plain(LOOK)
        for standings in ([("plain", "", 0, 0)], [("plain", "", key, note) for key in (0, 1) for note in (0, 1)]):
            self.assertIs(is_rows(rules, 1, all_rows(rules, 1, standings)), True)
        rules = Rules.careful()
        standings = [(word, "", key, note) for word in rules.words(1) for key in (0, 1) for note in (0, 1)]
        self.assertIs(is_rows(rules, 1, all_rows(rules, 1, standings)), False)
        rules = queue()
        standings = [(word, "", key, note) for word in rules.words(1) for key in (0, 1) for note in (0, 1)]
        self.assertIs(is_rows(rules, 1, all_rows(rules, 1, standings)), True)

    def test_the_beginning_must_be_covered(self):
        rules = Rules.plain(LOOK)
        rows = all_rows(rules, 2, [("plain", "", 1, 1), ("plain", "", 2, 0)])
        self.assertIs(is_rows(rules, 2, rows), False)
        self.assertIs(is_rows(rules, 2, []), False)
        self.assertIs(is_rows(rules, 2, [*rows, *all_rows(rules, 2, [beginning(rules)])]), True)

    def test_the_rows_of_wrong_rules_and_of_other_ones(self):
        for rules in (Rules.hasty(), ladder(3)):
            standings = [(word, "", key, note) for word in rules.words(1) for key in range(3) for note in range(3)]
            self.assertIs(is_rows(rules, 2, all_rows(rules, 2, standings)), False)
        rows = verdict(Rules.hasty(), 1)[1]
        self.assertIs(is_rows(Rules.hasty(), 1, rows), True)
        self.assertIs(is_rows(Rules.hasty(), 2, rows), False)
        self.assertIs(is_rows(Rules.careful(), 1, rows), False)
        rows = verdict(Rules.careful(), 3)[1]
        for shapes in (1, 2):
            self.assertIs(is_rows(Rules.careful(), shapes, rows), False)

    def test_closed_rows_are_not_enough_for_open_rules(self):
        courses = Rules.plain(LOOK_ADD).courses
        closed = Rules(LOOK_ADD, courses, closed=True)
        rows = verdict(closed, 1)[1]
        self.assertIs(is_rows(closed, 1, rows), True)
        merged = {(1, "plain"): (("do", 1), ("do", 2), ("out",)), (2, "plain"): (("do", 2), ("out",))}
        rows = verdict(Rules(LOOK_ADD, merged, closed=True), 1)[1]
        self.assertIs(is_rows(Rules(LOOK_ADD, merged), 1, rows), False)

    def test_a_part_exchanged(self):
        chance = random.Random(2)
        right = {True: 0, False: 0}
        samples = [(Rules.careful(), 2), (given_up(), 2), (TWO, 1), (TWO, 2), (queue(), 1), (fused(closed=True), 1),
                   (Rules.plain(LOOK_ADD), 1), (right_look(), 1)]
        for rules, shapes in samples:
            rows = verdict(rules, shapes)[1]
            states = sorted({state for row in rows for state in (*row[1], *row[2])})
            for _ in range(150):
                changed = list(rows)
                for _ in range(chance.randint(1, 2)):
                    at = chance.randrange(len(changed))
                    changed[at] = self.exchanged(chance, changed[at], states, rows)
                self.assertTrue(all(is_row(rules, shapes, row) for row in changed))
                told = is_rows(rules, shapes, changed)
                self.assertIs(told, plain.is_right_list(rules, shapes, changed), changed)
                right[told] += 1
        self.assertGreater(min(right.values()), 50)

    def exchanged(self, chance, row, states, rows):
        """A row that differs by a state, or by its standing."""
        standing, many, few = row
        way = chance.randint(1, 6)
        state = chance.choice(states)
        if way == 1:
            standing = chance.choice(rows)[0]
        elif way == 2:
            many = tuple(sorted({*many, state}))
        elif way == 3:
            many = tuple(other for other in many if other != chance.choice(many))
        elif way == 4 and many:
            # One of many is few now, at most so many of them.
            state = chance.choice(many)
            many = tuple(other for other in many if other != state)
            few = tuple(sorted([*few] + [state] * chance.randint(1, 3)))
        elif way == 5:
            few = tuple(sorted([*few] + [state] * chance.randint(1, 2)))
        else:
            few = few[1:]
        return standing, many, tuple(other for other in few if other not in many)

    def test_rows_of_other_forms(self):
        rows = two_rows()
        standing, many, few = rows[2]
        others = [(standing, many[::-1], few), (standing, list(many), few), (standing, many, list(few)),
                  [standing, many, few], (standing, (*many, many[-1]), few), (standing, many, (*few, many[0])),
                  (("b", "", 0, True), many, few), (standing, many), (standing, many, few, ()),
                  (standing, many, tuple(with_part(state, 2, True) for state in few)),
                  (standing, tuple(with_part(state, 3, False) for state in many), few)]
        for other in others:
            self.assertIs(is_rows(TWO, 1, [*rows[:2], other]), False, other)
            self.assertIs(is_rows(TWO, 1, [*rows, other]), False, other)

    def test_any_value(self):
        rows = two_rows()
        for value in [*odd_values(), tuple(rows), {0: rows}, [rows], rows[0], "right", verdict(TWO, 1)]:
            self.assertIs(is_rows(TWO, 1, value), False)
            if isinstance(value, list) and not value:
                continue
            self.assertIs(is_rows(TWO, 1, [value]), False)
            self.assertIs(is_rows(TWO, 1, [*rows, value]), value == rows[0])
            for at in range(3):
                if not (at == 1 and value == ()):
                    self.assertIs(is_rows(TWO, 1, [*rows[:2], with_part(rows[2], at, value)]), False)
                state = with_part(with_part(HELD, at, value), 3, 0)
                if value not in (1, 4) or isinstance(value, bool):
                    self.assertIs(is_rows(TWO, 1, [*rows[:2], with_part(rows[2], 2, (state,))]), False)

    def test_what_is_handed_in_is_not_changed(self):
        rows = two_rows()
        self.assertTrue(is_rows(TWO, 1, rows))
        self.assertEqual(rows, two_rows())


class WeavingTest(unittest.TestCase):
    WEAVING = [(0, 1, 1), (0,), (0,), (1, 1, 1), (1,), (1,)]

    def test_right_ones(self):
        self.assertIs(is_weaving(ladder(2), 1, self.WEAVING), True)
        renamed = [(10**59 if event[0] else 5, *event[1:]) for event in self.WEAVING]
        self.assertIs(is_weaving(ladder(2), 1, renamed), True)
        more = [(7, 1, 1), *self.WEAVING[:3], (7,), *self.WEAVING[3:]]
        self.assertIs(is_weaving(ladder(2), 1, more), True)

    def test_the_one_without_events(self):
        for rules in (ladder(2), with_course(LOOK, (1, "plain"), OUT)):
            self.assertIs(is_weaving(rules, 1, []), False)

    def test_one_that_goes_wrong_ahead_of_its_last_event(self):
        for more in ((0,), (1,), (2, 1, 1)):
            self.assertIs(is_weaving(ladder(2), 1, [*self.WEAVING, more]), False)

    def test_one_that_does_not_go_wrong(self):
        for many in range(len(self.WEAVING)):
            self.assertIs(is_weaving(ladder(2), 1, self.WEAVING[:many]), False)

    def test_events_that_cannot_be_done(self):
        for at in range(len(self.WEAVING)):
            for event in ((0, 1, 1), (9,), (9, 2, 0), (9, 1, 2), (9, 1, 0), None, [0], (True,), (-1, 1, 1)):
                changed = with_part(tuple(self.WEAVING), at, event)
                self.assertIs(is_weaving(ladder(2), 1, list(changed)),
                              event == (0, 1, 1) and at == 0, (at, event))

    def test_only_a_list_is_one(self):
        self.assertIs(is_weaving(ladder(2), 1, tuple(self.WEAVING)), False)
        self.assertIs(is_weaving(ladder(2), 1, {number: event for number, event in enumerate(self.WEAVING)}), False)

    def test_any_value(self):
        for value in [*odd_values(), verdict(ladder(2), 1), verdict(Rules.careful(), 1)[1]]:
            self.assertIs(is_weaving(ladder(2), 1, value), False)
            self.assertIs(is_weaving(ladder(2), 1, [value]), False)
            self.assertIs(is_weaving(ladder(2), 1, [*self.WEAVING[:5], value]), False)

    def test_against_the_plain_words(self):
        chance = random.Random(4)
        right = {True: 0, False: 0}
        for number in range(200):
            rules, shapes = made(number, changes=6), 1 + number % 3
            word, weaving = verdict(rules, shapes)
            if word == "right":
                continue
            for _ in range(20):
                changed = list(weaving)
                at = chance.randrange(len(changed))
                way = chance.randint(1, 3)
                if way == 1:
                    changed.pop(at)
                elif way == 2:
                    changed.insert(at, chance.choice(weaving))
                else:
                    changed[at:at + 2] = changed[at:at + 2][::-1]
                told = is_weaving(rules, shapes, changed)
                self.assertIs(told, plain.is_wrong_weaving(rules, shapes, changed))
                right[told] += 1
        self.assertGreater(min(right.values()), 50)

    def test_what_is_handed_in_is_not_changed(self):
        weaving = list(self.WEAVING)
        self.assertTrue(is_weaving(ladder(2), 1, weaving))
        self.assertEqual(weaving, self.WEAVING)


if __name__ == "__main__":
    unittest.main()
