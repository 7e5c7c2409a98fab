"""Points [7], [9], [11]: arrivals, each single move, ways to go wrong, most_left and covers."""

import unittest

from tests.samples import ADD_TELL, LATE, LOOK, LOOK_ADD, OUT, two_cells, with_course
from warmsteps.errors import GoneWrong
from warmsteps.rules import Rules
from warmsteps.steps import arrivals, beginning, covers, is_standing, is_state, most_left, stepped

WRITER = (("do", 1), ("set", "note"), ("set", "key"), ("word", 1, "sure"), ("out",))
SURE = (("key", LATE), ("note",), ("trust",), ("out",))


def all_standings(rules, shapes):
    """Every standing of the rules."""
    seconds = rules.words(2) if len(rules.pattern) == 2 else [""]
    halves = range(shapes + 1) if rules.pattern[0] == "look" else range(1)
    return [(first, second, key, note) for first in rules.words(1) for second in seconds
            for key in halves for note in halves]


def behind(rules, standing, state):
    """What is behind the next move, or None if the hand goes wrong."""
    try:
        return stepped(rules, standing, state)
    except GoneWrong:
        return None


def all_states(rules, shapes):
    """Every state to which a hand comes by its moves, whatever others do to the standing meanwhile."""
    standings = all_standings(rules, shapes)
    found = {}
    waiting = [state for standing in standings for state in arrivals(rules, shapes, standing)]
    while waiting:
        state = waiting.pop()
        if state not in found:
            found[state] = [behind(rules, standing, state) for standing in standings]
            waiting.extend(end[1] for end in found[state] if end is not None and end[1] is not None)
    return found


class ArrivalsTest(unittest.TestCase):
    def test_a_pattern_of_one_cell(self):
        rules = Rules.careful()
        for word in rules.words(1):
            for shapes in (1, 2, 3):
                expected = [(1, rules.courses[(1, word)], own, 0, (1,)) for own in range(1, shapes + 1)]
                self.assertEqual(arrivals(rules, shapes, (word, "", 1, 0)), expected)

    def test_two_cells_open_and_closed(self):
        for closed in (False, True):
            rules = two_cells(closed=closed)
            for first in rules.words(1):
                for second in rules.words(2):
                    expected = [(1, rules.courses[(1, first)], own, 0, (1, 2)) for own in (1, 2)]
                    if not closed:
                        expected.append((2, rules.courses[(2, second)], 0, 0, (2,)))
                    self.assertEqual(arrivals(rules, 2, (first, second, 0, 0)), expected)

    def test_a_pattern_that_does_not_look(self):
        for closed in (False, True):
            rules = with_course(ADD_TELL, (1, "plain"), (("do", 1), ("on",)), closed=closed)
            expected = [(1, (("do", 1), ("on",)), 0, 0, (1, 2)), (2, OUT, 0, 0, (2,))]
            for shapes in (1, 3):
                self.assertEqual(arrivals(rules, shapes, ("plain", "plain", 0, 0)), expected[:2 - closed])

    def test_closed_rules_of_one_cell(self):
        rules = Rules(LOOK, {(1, "plain"): LATE}, closed=True)
        self.assertEqual(arrivals(rules, 1, beginning(rules)), [(1, LATE, 1, 0, (1,))])

    def test_the_list_is_new_and_ascending(self):
        rules = two_cells()
        first = arrivals(rules, 3, beginning(rules))
        self.assertEqual(first, sorted(first))
        self.assertEqual(len(first), 4)
        first.clear()
        self.assertEqual(len(arrivals(rules, 3, beginning(rules))), 4)


class SteppedTest(unittest.TestCase):
    """Each move stands in a course of a look and an add; behind it is the end."""

    WORDS = [(1, "a"), (2, "b")]

    def step(self, move, standing, *, cell=1, own=2, read=1, owed=(1, 2)):
        """What is behind this move, with an end behind it."""
        rest = (move,) if move[0] in ("on", "out") else (move, ("out",))
        rules = with_course(LOOK_ADD, (cell, "plain"), rest, words=self.WORDS)
        own, read = (own, read) if cell == 1 else (0, 0)
        state = (cell, rest, own, read, owed)
        self.assertTrue(is_state(rules, 3, state))
        self.assertTrue(is_standing(rules, 3, standing))
        return stepped(rules, standing, state)

    def left(self, cell=1, own=2, read=1, owed=(1, 2)):
        return (cell, OUT, own, read, owed)

    def test_key(self):
        for key in (0, 1, 2, 3):
            standing = ("plain", "b", key, 2)
            rest = OUT if key == 2 else LATE
            self.assertEqual(self.step(("key", LATE), standing), (standing, (1, rest, 2, 1, (1, 2))))

    def test_key_is_held_against_the_own_shape_and_not_what_was_read(self):
        standing = ("plain", "plain", 1, 1)
        self.assertEqual(self.step(("key", LATE), standing, own=3, read=1), (standing, (1, LATE, 3, 1, (1, 2))))
        self.assertEqual(self.step(("key", LATE), standing, own=1, read=3), (standing, (1, OUT, 1, 3, (1, 2))))

    def test_is(self):
        for named, word, standing, held in ((1, "a", ("a", "plain", 1, 2), True), (1, "a", ("plain", "b", 1, 2), False),
                                            (2, "b", ("a", "b", 0, 0), True), (2, "b", ("a", "plain", 0, 0), False),
                                            (1, "plain", ("a", "plain", 0, 0), False),
                                            (2, "plain", ("a", "plain", 0, 0), True)):
            for owed in ((), (2,), (1, 2)):
                rest = OUT if held else LATE
                told = self.step(("is", named, word, LATE), standing, owed=owed)
                self.assertEqual(told, (standing, (1, rest, 2, 1, owed)))
                told = self.step(("is", named, word, LATE), standing, cell=2, owed=owed)
                self.assertEqual(told, (standing, (2, rest, 0, 0, owed)))

    def test_claim_that_holds_writes(self):
        for cell in (1, 2):
            state = self.left() if cell == 1 else self.left(2, 0, 0)
            told = self.step(("claim", 1, "plain", "a", LATE), ("plain", "b", 3, 1), cell=cell)
            self.assertEqual(told, (("a", "b", 3, 1), state))
            told = self.step(("claim", 2, "plain", "b", LATE), ("a", "plain", 3, 1), cell=cell)
            self.assertEqual(told, (("a", "b", 3, 1), state))
            told = self.step(("claim", 2, "b", "b", LATE), ("a", "b", 3, 1), cell=cell)
            self.assertEqual(told, (("a", "b", 3, 1), state))

    def test_claim_that_fails_writes_nothing(self):
        for cell in (1, 2):
            state = (1, LATE, 2, 1, (1, 2)) if cell == 1 else (2, LATE, 0, 0, (1, 2))
            for standing in (("a", "plain", 3, 1), ("a", "b", 0, 0)):
                self.assertEqual(self.step(("claim", 1, "plain", "a", LATE), standing, cell=cell), (standing, state))
            standing = ("plain", "plain", 3, 1)
            self.assertEqual(self.step(("claim", 2, "b", "plain", LATE), standing, cell=cell), (standing, state))

    def test_a_failed_check_leaves_what_stands_behind_it(self):
        inner = (("is", 1, "a", (("wipe", "key"), ("out",))), ("note",), ("on",))
        rules = with_course(LOOK_ADD, (1, "plain"), (("key", inner), ("trust",), ("on",)), words=self.WORDS)
        standing = ("plain", "plain", 1, 3)
        state = (1, rules.courses[(1, "plain")], 2, 0, (1, 2))
        standing, state = stepped(rules, standing, state)
        self.assertEqual(state, (1, inner, 2, 0, (1, 2)))
        standing, state = stepped(rules, standing, state)
        self.assertEqual(state, (1, (("wipe", "key"), ("out",)), 2, 0, (1, 2)))
        standing, state = stepped(rules, standing, state)
        self.assertEqual((standing, state), (("plain", "plain", 0, 3), (1, OUT, 2, 0, (1, 2))))

    def test_note(self):
        for note in (0, 1, 2, 3):
            for read in (0, 1, 3):
                standing = ("a", "b", 1, note)
                told = self.step(("note",), standing, read=read, owed=(2,))
                self.assertEqual(told, (standing, self.left(read=note, owed=(2,))))

    def test_set(self):
        for own in (1, 3):
            standing = ("a", "b", 2, 0)
            self.assertEqual(self.step(("set", "key"), standing, own=own), (("a", "b", own, 0), self.left(own=own)))
            self.assertEqual(self.step(("set", "note"), standing, own=own), (("a", "b", 2, own), self.left(own=own)))

    def test_wipe(self):
        self.assertEqual(self.step(("wipe", "key"), ("a", "b", 2, 3)), (("a", "b", 0, 3), self.left()))
        self.assertEqual(self.step(("wipe", "note"), ("a", "b", 2, 3)), (("a", "b", 2, 0), self.left()))
        self.assertEqual(self.step(("wipe", "note"), ("a", "b", 2, 0)), (("a", "b", 2, 0), self.left()))

    def test_word(self):
        for cell in (1, 2):
            state = self.left() if cell == 1 else self.left(2, 0, 0)
            self.assertEqual(self.step(("word", 1, "a"), ("plain", "b", 2, 3), cell=cell), (("a", "b", 2, 3), state))
            told = self.step(("word", 2, "plain"), ("plain", "b", 2, 3), cell=cell)
            self.assertEqual(told, (("plain", "plain", 2, 3), state))

    def test_do(self):
        standing = ("a", "b", 1, 2)
        self.assertEqual(self.step(("do", 1), standing, owed=(1, 2)), (standing, self.left(owed=(2,))))
        self.assertEqual(self.step(("do", 2), standing, owed=(2,)), (standing, self.left(owed=())))
        self.assertEqual(self.step(("do", 1), standing, cell=2, owed=(1, 2)), (standing, self.left(2, 0, 0, (2,))))
        self.assertEqual(self.step(("do", 2), standing, cell=2, owed=(2,)), (standing, self.left(2, 0, 0, ())))

    def test_do_of_one_cell(self):
        state = (1, LATE, 1, 0, (1,))
        told = stepped(Rules.careful(), ("busy", "", 0, 0), state)
        self.assertEqual(told, (("busy", "", 0, 0), (1, OUT, 1, 0, ())))

    def test_trust(self):
        for own in (1, 2, 3):
            for standing in (("a", "b", 0, 0), ("plain", "plain", 3, 1)):
                told = self.step(("trust",), standing, own=own, read=own)
                self.assertEqual(told, (standing, self.left(own=own, read=own, owed=(2,))))

    def test_on(self):
        standing = ("a", "b", 1, 2)
        for owed in ((), (2,), (1, 2)):
            for read in (0, 1, 2):
                told = self.step(("on",), standing, read=read, owed=owed)
                self.assertEqual(told, (standing, (2, (), 0, 0, owed)))

    def test_reading_of_the_second_word(self):
        rules = two_cells()
        for first in rules.words(1):
            for second in rules.words(2):
                for owed in ((), (2,), (1, 2)):
                    standing = (first, second, 1, 2)
                    told = stepped(rules, standing, (2, (), 0, 0, owed))
                    self.assertEqual(told, (standing, (2, rules.courses[(2, second)], 0, 0, owed)))

    def test_out(self):
        for cell in (1, 2):
            standing = ("a", "b", 1, 2)
            self.assertEqual(self.step(("out",), standing, cell=cell, owed=()), (standing, None))
        self.assertEqual(stepped(Rules.hasty(), ("sure", "", 1, 1), (1, OUT, 2, 1, ())), (("sure", "", 1, 1), None))

    def test_arguments_by_name_and_what_is_told_is_a_tuple(self):
        told = stepped(state=(1, OUT, 1, 0, ()), standing=("plain", "", 0, 0), rules=Rules.hasty())
        self.assertEqual(told, (("plain", "", 0, 0), None))
        self.assertIsInstance(told, tuple)


class WrongTest(unittest.TestCase):
    def refused(self, rules, standing, state):
        self.assertTrue(is_state(rules, 3, state))
        with self.assertRaises(GoneWrong) as held:
            stepped(rules, standing, state)
        self.assertIs(held.exception.hand, state)

    def test_do_of_what_is_not_the_first_owed(self):
        for cell in (1, 2):
            own = 2 if cell == 1 else 0
            for named, owed in ((1, ()), (1, (2,)), (2, ()), (2, (1, 2))):
                rest = (("do", named), ("out",))
                rules = with_course(LOOK_ADD, (cell, "plain"), rest)
                self.refused(rules, ("plain", "plain", 0, 0), (cell, rest, own, 0, owed))

    def test_do_twice(self):
        rest = (("do", 1), ("do", 1), ("out",))
        rules = with_course(LOOK, (1, "plain"), rest)
        standing, state = stepped(rules, beginning(rules), (1, rest, 1, 0, (1,)))
        self.refused(rules, standing, state)

    def test_trust_of_a_first_cell_that_is_not_owed(self):
        rest = (("trust",), ("out",))
        for owed in ((), (2,)):
            self.refused(with_course(LOOK_ADD, (1, "plain"), rest), ("plain", "plain", 1, 1), (1, rest, 1, 1, owed))
        self.refused(with_course(LOOK, (1, "plain"), rest), ("plain", "", 1, 1), (1, rest, 1, 1, ()))

    def test_trust_of_another_shape_or_of_none(self):
        rest = (("trust",), ("out",))
        rules = with_course(LOOK, (1, "plain"), rest)
        for own in (1, 2, 3):
            for read in (0, 1, 2, 3):
                if own != read:
                    self.refused(rules, ("plain", "", own, own), (1, rest, own, read, (1,)))

    def test_trust_needs_no_note_ahead_of_it_in_its_course(self):
        rest = (("trust",), ("out",))
        rules = with_course(LOOK, (1, "plain"), rest)
        self.assertEqual(stepped(rules, ("plain", "", 0, 0), (1, rest, 2, 2, (1,)))[1], (1, OUT, 2, 2, ()))

    def test_out_if_something_is_owed(self):
        self.refused(Rules.hasty(), ("sure", "", 0, 0), (1, OUT, 1, 0, (1,)))
        for owed in ((2,), (1, 2)):
            for cell, own in ((1, 1), (2, 0)):
                rules = with_course(LOOK_ADD, (cell, "plain"), OUT)
                self.refused(rules, ("plain", "plain", 0, 0), (cell, OUT, own, 0, owed))

    def test_on_is_never_wrong(self):
        rules = Rules.plain(LOOK_ADD)
        for owed in ((), (2,), (1, 2)):
            told = stepped(rules, ("plain", "plain", 0, 0), (1, (("on",),), 1, 0, owed))
            self.assertEqual(told[1], (2, (), 0, 0, owed))

    def test_other_moves_are_never_wrong(self):
        for rules in (two_cells(), Rules.careful()):
            for state, ends in all_states(rules, 2).items():
                if not state[1] or state[1][0][0] not in ("do", "trust", "out"):
                    self.assertNotIn(None, ends)

    def test_the_site_of_the_document(self):
        """The example of warmsteps/sites.py, move by move."""
        rules = Rules.hasty()
        standing, hands = beginning(rules), {}
        for event in ((0, 1, 1), (0,), (0,), (1, 1, 2), (1,), (1,), (0,)):
            if len(event) == 3:
                hands[event[0]] = arrivals(rules, 2, standing)[event[2] - 1]
            else:
                standing, hands[event[0]] = stepped(rules, standing, hands[event[0]])
        self.assertEqual(standing, ("plain", "", 1, 2))
        self.assertEqual(hands[0], (1, (("word", 1, "sure"), ("out",)), 1, 0, ()))


class MostLeftTest(unittest.TestCase):
    def test_one_cell(self):
        rules = Rules.careful()
        for rest, most in ((LATE, 2), (OUT, 1), (SURE, 4), (SURE[1:], 3), (WRITER, 5), (WRITER[3:], 2),
                           (rules.courses[(1, "plain")], 6)):
            for owed in ((), (1,)):
                self.assertEqual(most_left(rules, (1, rest, 1, 0, owed)), most)

    def test_a_check_that_fails_may_be_the_longer_way(self):
        long = tuple(("note",) for _ in range(9)) + OUT
        course = (("key", long), ("do", 1), ("out",))
        rules = with_course(LOOK, (1, "plain"), course)
        self.assertEqual(most_left(rules, (1, course, 1, 0, (1,))), 11)
        self.assertEqual(most_left(rules, (1, course[1:], 1, 0, (1,))), 2)
        course = (("do", 1), ("is", 1, "plain", (("note",), ("claim", 1, "plain", "plain", long), ("out",))), ("note",),
                  ("note",), ("out",))
        rules = with_course(LOOK, (1, "plain"), course)
        self.assertEqual(most_left(rules, (1, course, 1, 0, (1,))), 1 + 1 + 1 + 1 + 10)
        self.assertEqual(most_left(rules, (1, course[2:], 1, 0, ())), 3)

    def test_the_second_word_is_read_by_a_move(self):
        rules = Rules.plain(ADD_TELL)
        self.assertEqual(most_left(rules, (1, (("do", 1), ("on",)), 0, 0, (1, 2))), 5)
        self.assertEqual(most_left(rules, (1, (("on",),), 0, 0, (2,))), 4)
        self.assertEqual(most_left(rules, (2, (), 0, 0, (2,))), 3)
        self.assertEqual(most_left(rules, (2, (("do", 2), ("out",)), 0, 0, (2,))), 2)
        self.assertEqual(most_left(state=(2, OUT, 0, 0, ()), rules=rules), 1)

    def test_the_longest_second_course_counts_whatever_its_word(self):
        rules = Rules(ADD_TELL, {(1, "plain"): (("is", 2, "a", OUT), ("on",)), (2, "plain"): OUT,
                                 (2, "a"): (("do", 2), ("do", 2), ("is", 1, "plain", LATE), ("out",))})
        self.assertEqual(most_left(rules, (1, (("is", 2, "a", OUT), ("on",)), 0, 0, (1, 2))), 2 + 1 + 5)
        self.assertEqual(most_left(rules, (2, (), 0, 0, (1, 2))), 1 + 5)
        self.assertEqual(most_left(rules, (2, OUT, 0, 0, (1, 2))), 1)

    def test_other_courses_may_go_on(self):
        course = (("key", (("on",),)), ("note",), ("out",))
        rules = with_course(LOOK_ADD, (1, "plain"), course, words=[(2, "a")])
        self.assertEqual(most_left(rules, (1, course, 1, 0, (1, 2))), 1 + 1 + 1 + 1)
        self.assertEqual(most_left(rules, (1, course[1:], 1, 0, (1, 2))), 2)

    def test_a_state_from_which_it_goes_wrong(self):
        rules = Rules.hasty()
        self.assertEqual(most_left(rules, (1, OUT, 1, 0, (1,))), 1)
        self.assertEqual(most_left(rules, (1, LATE, 1, 0, ())), 2)
        self.assertEqual(most_left(rules, (1, SURE[2:], 1, 2, (1,))), 2)

    def test_each_move_takes_one_of_the_longest_way(self):
        for rules in (Rules.careful(), Rules.hasty(), two_cells(), Rules.plain(LOOK_ADD)):
            for state, ends in all_states(rules, 2).items():
                if None not in ends:
                    lefts = [most_left(rules, end[1]) if end[1] else 0 for end in ends]
                    self.assertEqual(most_left(rules, state), 1 + max(lefts), state)


class FormsKeptTest(unittest.TestCase):
    def test_what_is_told_has_the_form_of_standings_and_states(self):
        for rules in (Rules.careful(), Rules.hasty(), two_cells(), Rules.plain(ADD_TELL)):
            for state, ends in all_states(rules, 2).items():
                self.assertTrue(is_state(rules, 2, state), state)
                for end in ends:
                    if end is not None:
                        self.assertTrue(is_standing(rules, 2, end[0]), end)


class CoversTest(unittest.TestCase):
    STANDING = ("plain", "", 0, 0)
    A = (1, LATE, 1, 0, (1,))
    B = (1, LATE, 1, 1, (1,))
    C = (1, LATE, 2, 0, (1,))

    def covered(self, one, other):
        return covers((self.STANDING, *one), (self.STANDING, *other))

    def test_the_standings_are_equal(self):
        empty = (self.STANDING, (), ())
        self.assertIs(covers(empty, empty), True)
        for standing in (("sure", "", 0, 0), ("plain", "", 1, 0), ("plain", "", 0, 1), ("plain", "plain", 0, 0)):
            self.assertIs(covers(empty, (standing, (), ())), False)
            self.assertIs(covers((standing, (), ()), empty), False)

    def test_many(self):
        self.assertIs(self.covered(((self.A,), ()), ((), ())), True)
        self.assertIs(self.covered(((), ()), ((self.A,), ())), False)
        self.assertIs(self.covered(((self.A, self.B), ()), ((self.B,), ())), True)
        self.assertIs(self.covered(((self.B,), ()), ((self.A, self.B), ())), False)
        self.assertIs(self.covered(((self.A, self.C), ()), ((self.A, self.B), ())), False)

    def test_many_of_the_other_are_not_in_few(self):
        self.assertIs(self.covered(((), (self.A, self.A, self.A)), ((self.A,), ())), False)
        self.assertIs(self.covered(((self.B,), (self.A,)), ((self.A,), ())), False)

    def test_few_of_the_other_are_in_many(self):
        self.assertIs(self.covered(((self.A,), ()), ((), (self.A,))), True)
        self.assertIs(self.covered(((self.A,), ()), ((), (self.A, self.A, self.A))), True)
        self.assertIs(self.covered(((self.A,), ()), ((), (self.A, self.B))), False)
        self.assertIs(self.covered(((self.A,), (self.B,)), ((), (self.A, self.A, self.B))), True)

    def test_few_of_the_other_are_in_few_at_least_as_often(self):
        self.assertIs(self.covered(((), (self.A,)), ((), (self.A,))), True)
        self.assertIs(self.covered(((), (self.A, self.A)), ((), (self.A,))), True)
        self.assertIs(self.covered(((), (self.A,)), ((), (self.A, self.A))), False)
        self.assertIs(self.covered(((), (self.A, self.A, self.C)), ((), (self.A, self.A, self.C))), True)
        self.assertIs(self.covered(((), (self.A, self.C, self.C)), ((), (self.A, self.A, self.C))), False)
        self.assertIs(self.covered(((), (self.A,)), ((), (self.B,))), False)
        self.assertIs(self.covered(((), ()), ((), (self.A,))), False)
        self.assertIs(self.covered(((), (self.A, self.B)), ((), ())), True)

    def test_arguments_by_name(self):
        less, more = (self.STANDING, (), ()), (self.STANDING, (self.A,), ())
        self.assertIs(covers(one=more, other=less), True)
        self.assertIs(covers(other=more, one=less), False)

    def test_both_at_once(self):
        one = ((self.A,), (self.B, self.B))
        for other, right in ((((self.A,), (self.B,)), True), (((), (self.A, self.A, self.B, self.B)), True),
                             (((self.A,), (self.B, self.B, self.B)), False), (((self.B,), (self.A,)), False),
                             (((self.A,), (self.B, self.C)), False)):
            self.assertIs(self.covered(one, other), right)


if __name__ == "__main__":
    unittest.main()
