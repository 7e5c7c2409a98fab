"""Points [6], [9], [11]: the forms of standings, states and rows, and the number of shapes."""

import unittest

from tests.samples import ADD_TELL, LATE, LOOK, LOOK_ADD, OUT, odd_values, two_cells, with_course, with_part
from warmsteps.errors import BadShapes
from warmsteps.rules import Rules
from warmsteps.steps import arrivals, beginning, is_row, is_standing, is_state

WRITER = (("do", 1), ("set", "note"), ("set", "key"), ("word", 1, "sure"), ("out",))
SURE = (("key", LATE), ("note",), ("trust",), ("out",))


class ShapesTest(unittest.TestCase):
    def test_any_value_that_is_no_number_of_shapes(self):
        rules = Rules.hasty()
        standing = beginning(rules)
        for shapes in [0, *odd_values()]:
            for judge in (is_standing, is_state, is_row, arrivals):
                for value in (standing, None, [], ((),)):
                    with self.assertRaises(BadShapes) as held:
                        judge(rules, shapes, value)
                    self.assertIs(held.exception.value, shapes)

    def test_all_numbers_of_shapes(self):
        rules = Rules.hasty()
        for shapes in (1, 2, 3):
            self.assertIs(is_standing(rules, shapes, beginning(rules)), True)
            self.assertIs(is_state(rules, shapes, (1, LATE, 1, 0, (1,))), True)
            self.assertIs(is_row(rules, shapes, (beginning(rules), (), ())), True)
            self.assertEqual(len(arrivals(rules, shapes, beginning(rules))), shapes)

    def test_arguments_by_name(self):
        rules = Rules.hasty()
        standing = beginning(rules=rules)
        self.assertIs(is_standing(value=standing, shapes=1, rules=rules), True)
        self.assertIs(is_state(value=(1, LATE, 1, 0, (1,)), shapes=1, rules=rules), True)
        self.assertIs(is_row(value=(standing, (), ()), shapes=1, rules=rules), True)
        self.assertEqual(len(arrivals(standing=standing, shapes=1, rules=rules)), 1)


class StandingTest(unittest.TestCase):
    def test_beginning(self):
        self.assertEqual(beginning(Rules.careful()), ("plain", "", 0, 0))
        self.assertEqual(beginning(Rules(LOOK, {(1, "plain"): OUT, (1, "a"): OUT}, closed=True)), ("plain", "", 0, 0))
        self.assertEqual(beginning(Rules.plain(ADD_TELL)), ("plain", "plain", 0, 0))
        self.assertEqual(beginning(two_cells()), ("plain", "plain", 0, 0))

    def test_words_of_one_cell(self):
        rules = Rules.careful()
        for word in ("plain", "busy", "sure"):
            self.assertTrue(is_standing(rules, 1, (word, "", 0, 0)))
        for first, second in (("late", ""), ("", ""), ("plain", "plain"), ("", "plain"), ("plain", None)):
            self.assertFalse(is_standing(rules, 1, (first, second, 0, 0)))

    def test_words_of_two_cells(self):
        rules = two_cells()
        for first in ("plain", "busy", "sure", "one", "", None):
            for second in ("plain", "one", "sure", "", None):
                right = first in ("plain", "busy", "sure") and second in ("plain", "one")
                self.assertIs(is_standing(rules, 2, (first, second, 0, 0)), right)

    def test_key_and_note_of_a_pattern_that_looks(self):
        for rules in (Rules.hasty(), two_cells()):
            for shapes in (1, 2, 3):
                for key in range(-1, 5):
                    for note in range(-1, 5):
                        right = 0 <= key <= shapes and 0 <= note <= shapes
                        value = (*beginning(rules)[:2], key, note)
                        self.assertIs(is_standing(rules, shapes, value), right)

    def test_key_and_note_of_a_pattern_that_does_not_look(self):
        rules = Rules.plain(ADD_TELL)
        for shapes in (1, 2, 3):
            for key in range(-1, 5):
                for note in range(-1, 5):
                    self.assertIs(is_standing(rules, shapes, ("plain", "plain", key, note)), key == 0 == note)

    def test_any_value(self):
        for rules in (Rules.hasty(), two_cells(), Rules.plain(ADD_TELL)):
            standing = beginning(rules)
            for value in odd_values():
                self.assertIs(is_standing(rules, 3, value), False)
                for at in range(4):
                    if at == 1 and value == "" and rules.pattern == LOOK:
                        continue
                    self.assertIs(is_standing(rules, 3, with_part(standing, at, value)), False, (at, value))

    def test_other_lengths_and_kinds(self):
        rules = Rules.hasty()
        for value in (["plain", "", 0, 0], ("plain", "", 0), ("plain", "", 0, 0, 0), ("plain", 0, 0), ()):
            self.assertIs(is_standing(rules, 3, value), False)


class StateTest(unittest.TestCase):
    def test_rests_of_one_cell(self):
        rules = Rules.hasty()
        rests = [course[at:] for course in (WRITER, SURE, LATE) for at in range(len(course))]
        for rest in rests:
            self.assertIs(is_state(rules, 2, (1, rest, 1, 0, (1,))), True, rest)
        wrong = [(), WRITER[:4], WRITER[1:4], WRITER[::-1], (*LATE, *LATE), (("do", 1),), (("key", LATE),),
                 (("trust",), ("trust",), ("out",)), (("on",),), (("claim", 1, "plain", "busy", LATE), *WRITER),
                 (("key", OUT), *SURE[1:]), (("key", ()), *SURE[1:]), list(LATE), tuple(list(move) for move in LATE),
                 (("do", True), ("out",)), (("do", "1"), ("out",)), (("key", list(LATE)), *SURE[1:]),
                 (("key", (("do", True), ("out",))), *SURE[1:]), (("do", 1), ("set", "note"), ("out",))]
        for rest in wrong:
            self.assertIs(is_state(rules, 2, (1, rest, 1, 0, (1,))), False, rest)

    def test_rests_of_courses_deep_in_others(self):
        deepest = (("do", 1), ("wipe", "key"), ("out",))
        middle = (("note",), ("is", 1, "plain", deepest), ("trust",), ("out",))
        course = (("key", middle), ("out",))
        rules = with_course(LOOK, (1, "plain"), course)
        for part in (course, middle, deepest):
            for at in range(len(part)):
                self.assertIs(is_state(rules, 1, (1, part[at:], 1, 1, ())), True)
            self.assertIs(is_state(rules, 1, (1, part[:-1], 1, 1, ())), False)

    def test_rests_are_those_of_the_cell(self):
        rules = Rules(ADD_TELL, {(1, "plain"): (("do", 1), ("word", 2, "b"), ("on",)), (1, "a"): (("do", 2), ("out",)),
                                 (2, "plain"): (("do", 2), ("out",)), (2, "b"): (("word", 1, "a"), ("out",))})
        first = [(("do", 1), ("word", 2, "b"), ("on",)), (("word", 2, "b"), ("on",)), (("on",),)]
        both = [(("do", 2), ("out",)), (("out",),)]
        second = [(), (("word", 1, "a"), ("out",))]
        for rest in (*first, *both, *second):
            self.assertIs(is_state(rules, 1, (1, rest, 0, 0, (1, 2))), rest not in second, rest)
            self.assertIs(is_state(rules, 1, (2, rest, 0, 0, (2,))), rest not in first, rest)

    def test_own_and_read_at_the_first_cell_of_a_pattern_that_looks(self):
        for rules in (Rules.hasty(), two_cells()):
            rest = rules.courses[(1, "plain")]
            for shapes in (1, 2, 3):
                for own in range(-1, 5):
                    for read in range(-1, 5):
                        right = 1 <= own <= shapes and 0 <= read <= shapes
                        self.assertIs(is_state(rules, shapes, (1, rest, own, read, ())), right)

    def test_own_and_read_elsewhere(self):
        rows = [(two_cells(), 2, two_cells().courses[(2, "plain")]), (two_cells(), 2, ())]
        rows += [(Rules.plain(ADD_TELL), 1, (("on",),)), (Rules.plain(ADD_TELL), 2, (("out",),))]
        rows += [(Rules.plain(LOOK_ADD), 2, ())]
        for rules, cell, rest in rows:
            for shapes in (1, 2, 3):
                for own in range(-1, 5):
                    for read in range(-1, 5):
                        self.assertIs(is_state(rules, shapes, (cell, rest, own, read, ())), own == 0 == read)

    def test_owed(self):
        all_owed = [(), (1,), (2,), (1, 2), (2, 1), (1, 1), (2, 2), (1, 2, 3), (0,), (0, 1), (0, 1, 2), (3,), (True,),
                    (True, 2), [], [1], [1, 2], None, 1, 0, "", "1", (None,), ((1,),), (1, (2,)), (False,)]
        for owed in all_owed:
            plain = isinstance(owed, tuple) and not any(isinstance(cell, bool) for cell in owed)
            one = is_state(Rules.hasty(), 1, (1, LATE, 1, 0, owed))
            self.assertIs(one, plain and owed in ((), (1,)), owed)
            rules = two_cells()
            for state in ((1, (("on",),), 1, 0, owed), (2, (), 0, 0, owed), (2, (("out",),), 0, 0, owed)):
                self.assertIs(is_state(rules, 1, state), plain and owed in ((), (2,), (1, 2)), state)

    def test_cells(self):
        rules = two_cells()
        for cell, right in ((1, True), (2, True), (0, False), (3, False), (True, False), ("1", False), (None, False)):
            own = 0 if cell == 2 else 1
            self.assertIs(is_state(rules, 1, (cell, (("out",),), own, 0, ())), right)
        self.assertIs(is_state(Rules.hasty(), 1, (2, (("out",),), 0, 0, ())), False)
        self.assertIs(is_state(Rules.hasty(), 1, (2, (), 0, 0, ())), False)

    def test_nothing_is_left_only_at_the_second_cell(self):
        self.assertIs(is_state(two_cells(), 1, (2, (), 0, 0, (2,))), True)
        self.assertIs(is_state(two_cells(), 1, (1, (), 1, 0, (1, 2))), False)
        self.assertIs(is_state(Rules.plain(ADD_TELL), 1, (1, (), 0, 0, (1, 2))), False)
        self.assertIs(is_state(Rules.hasty(), 1, (1, (), 1, 0, (1,))), False)

    def test_any_value(self):
        for rules, state in ((Rules.hasty(), (1, LATE, 1, 0, (1,))), (two_cells(), (2, (("out",),), 0, 0, (2,)))):
            self.assertIs(is_state(rules, 3, state), True)
            for value in odd_values():
                self.assertIs(is_state(rules, 3, value), False)
                for at in range(5):
                    if at == 1 and value == () and state[0] == 2:
                        continue
                    self.assertIs(is_state(rules, 3, with_part(state, at, value)), False, (at, value))

    def test_other_lengths_and_kinds(self):
        state = (1, LATE, 1, 0, (1,))
        for value in (list(state), state[:4], (*state, ()), (), state[1:]):
            self.assertIs(is_state(Rules.hasty(), 3, value), False)

    def test_closed_rules_have_the_same_states(self):
        for closed in (False, True):
            self.assertIs(is_state(two_cells(closed=closed), 1, (2, (("out",),), 0, 0, (2,))), True)


class RowTest(unittest.TestCase):
    BEGINNING = ("plain", "", 0, 0)
    LOW = (1, LATE, 1, 0, (1,))
    MIDDLE = (1, LATE, 1, 1, (1,))
    HIGH = (1, LATE, 2, 0, (1,))

    def judged(self, many, few, standing=BEGINNING, shapes=2):
        return is_row(Rules.hasty(), shapes, (standing, many, few))

    def test_many_is_ascending_and_different(self):
        self.assertIs(self.judged((), ()), True)
        self.assertIs(self.judged((self.LOW,), ()), True)
        self.assertIs(self.judged((self.LOW, self.MIDDLE, self.HIGH), ()), True)
        self.assertIs(self.judged((self.LOW, self.LOW), ()), False)
        self.assertIs(self.judged((self.LOW, self.MIDDLE, self.MIDDLE), ()), False)
        self.assertIs(self.judged((self.MIDDLE, self.LOW), ()), False)
        self.assertIs(self.judged((self.LOW, self.HIGH, self.MIDDLE), ()), False)

    def test_few_is_ascending_and_may_have_one_several_times(self):
        self.assertIs(self.judged((), (self.LOW,)), True)
        self.assertIs(self.judged((), (self.LOW, self.LOW)), True)
        self.assertIs(self.judged((), (self.LOW, self.MIDDLE, self.MIDDLE, self.MIDDLE, self.HIGH)), True)
        self.assertIs(self.judged((), (self.MIDDLE, self.LOW)), False)
        self.assertIs(self.judged((), (self.LOW, self.HIGH, self.MIDDLE)), False)
        self.assertIs(self.judged((), (self.LOW, self.MIDDLE, self.LOW)), False)

    def test_none_is_in_both(self):
        self.assertIs(self.judged((self.LOW,), (self.MIDDLE,)), True)
        self.assertIs(self.judged((self.MIDDLE,), (self.LOW, self.LOW, self.HIGH)), True)
        self.assertIs(self.judged((self.LOW,), (self.LOW,)), False)
        self.assertIs(self.judged((self.LOW, self.HIGH), (self.MIDDLE, self.HIGH)), False)
        self.assertIs(self.judged((self.HIGH,), (self.LOW, self.HIGH, self.HIGH)), False)

    def test_standing_and_states_have_their_forms(self):
        self.assertIs(self.judged((self.HIGH,), (), shapes=1), False)
        self.assertIs(self.judged((), (self.HIGH,), shapes=1), False)
        self.assertIs(self.judged((), (self.LOW, self.HIGH), shapes=1), False)
        self.assertIs(self.judged((), (), standing=("late", "", 0, 0)), False)
        self.assertIs(self.judged((), (), standing=("plain", "", 2, 0), shapes=1), False)
        self.assertIs(self.judged((), (), standing=("plain", "", 2, 0), shapes=2), True)
        self.assertIs(self.judged((), (), standing=("plain", "", False, 0)), False)

    def test_rows_of_two_cells(self):
        rules = two_cells()
        first = (1, (("on",),), 1, 0, (2,))
        second = (2, (), 0, 0, (2,))
        third = (2, (("out",),), 0, 0, ())
        for many, few, right in (((first, second, third), (), True), ((first,), (second, second), True),
                                 ((second,), (first, third), True), ((third, second), (), False),
                                 ((second,), (first, second), False)):
            self.assertIs(is_row(rules, 1, (("sure", "one", 1, 0), many, few)), right)

    def test_lists_are_no_rows(self):
        self.assertIs(self.judged([self.LOW], ()), False)
        self.assertIs(self.judged((), [self.LOW]), False)
        self.assertIs(self.judged([], ()), False)
        self.assertIs(self.judged((), []), False)
        self.assertIs(self.judged((list(self.LOW),), ()), False)
        self.assertIs(self.judged((), (list(self.LOW),)), False)
        self.assertIs(is_row(Rules.hasty(), 2, [self.BEGINNING, (), ()]), False)
        self.assertIs(self.judged((), (), standing=list(self.BEGINNING)), False)

    def test_other_lengths(self):
        for value in ((), (self.BEGINNING,), (self.BEGINNING, ()), (self.BEGINNING, (), (), ())):
            self.assertIs(is_row(Rules.hasty(), 2, value), False)

    def test_any_value(self):
        row = (self.BEGINNING, (self.LOW,), (self.MIDDLE,))
        self.assertIs(is_row(Rules.hasty(), 2, row), True)
        for value in odd_values():
            self.assertIs(is_row(Rules.hasty(), 2, value), False)
            for at in range(3):
                self.assertIs(is_row(Rules.hasty(), 2, with_part(row, at, value)), False, (at, value))
            self.assertIs(self.judged((value,), ()), False)
            self.assertIs(self.judged((), (value,)), False)
            self.assertIs(self.judged((self.LOW, value), ()), False)
            self.assertIs(self.judged((), (value, self.LOW)), False)


if __name__ == "__main__":
    unittest.main()
