"""Points [5], [7], [8] and warmsteps/rules.py: what rules tell, and the rules made of them."""

import unittest

from tests.samples import ADD_TELL, LATE, LOOK, LOOK_ADD, OUT, odd_values, steady, two_cells, with_course
from warmsteps.errors import BadCourse, BadPattern, NoPlace
from warmsteps.rules import Rules

CAREFUL = {
    (1, "plain"): (("claim", 1, "plain", "busy", LATE), ("do", 1), ("set", "note"), ("set", "key"),
                   ("word", 1, "sure"), ("out",)),
    (1, "busy"): LATE,
    (1, "sure"): (("key", LATE), ("note",), ("trust",), ("out",)),
}
HASTY = {
    (1, "plain"): (("do", 1), ("set", "note"), ("set", "key"), ("word", 1, "sure"), ("out",)),
    (1, "sure"): (("key", LATE), ("note",), ("trust",), ("out",)),
}
NESTED = (("key", (("note",), ("is", 1, "plain", (("do", 1), ("wipe", "key"), ("out",))), ("out",))), ("trust",),
          ("out",))
NESTED_MOVES = {
    (0,): NESTED[0],
    (0, 0): ("note",),
    (0, 1): ("is", 1, "plain", (("do", 1), ("wipe", "key"), ("out",))),
    (0, 1, 0): ("do", 1),
    (0, 1, 1): ("wipe", "key"),
    (0, 1, 2): ("out",),
    (0, 2): ("out",),
    (1,): ("trust",),
    (2,): ("out",),
}


class KnownRulesTest(unittest.TestCase):
    def test_the_example_of_the_document(self):
        rules = Rules.careful()
        shown = [len(rules), rules.words(1), rules[(1, "sure", (0, 1))], (1, "plain", (0,)) in rules,
                 (1, "plain", (1, 0)) in rules]
        self.assertEqual(shown, [16, ["busy", "plain", "sure"], ("out",), True, False])

    def test_careful(self):
        rules = Rules.careful()
        self.assertEqual([rules.pattern, rules.courses, rules.closed], [LOOK, CAREFUL, False])

    def test_hasty(self):
        rules = Rules.hasty()
        self.assertEqual([rules.pattern, rules.courses, rules.closed], [LOOK, HASTY, False])
        self.assertEqual(len(rules), 11)

    def test_plain_with_one_cell(self):
        rules = Rules.plain(LOOK)
        self.assertEqual([rules.pattern, rules.closed], [LOOK, False])
        self.assertEqual(rules.courses, {(1, "plain"): (("do", 1), ("out",))})

    def test_plain_with_two_cells(self):
        for pattern in (LOOK_ADD, ADD_TELL, ("take", "take")):
            rules = Rules.plain(pattern=pattern)
            self.assertEqual([rules.pattern, rules.closed], [pattern, False])
            self.assertEqual(rules.courses, {(1, "plain"): (("do", 1), ("on",)), (2, "plain"): (("do", 2), ("out",))})

    def test_plain_refuses_any_value_that_is_no_pattern(self):
        for value in odd_values():
            with self.assertRaises(BadPattern) as held:
                Rules.plain(value)
            self.assertIs(held.exception.value, value)

    def test_they_are_rules_of_each_other_equal(self):
        self.assertEqual(Rules.careful(), Rules(LOOK, CAREFUL))
        self.assertEqual(Rules.hasty(), Rules(LOOK, HASTY, closed=False))
        self.assertNotEqual(Rules.hasty(), Rules.careful())


class PropertiesTest(unittest.TestCase):
    def test_closed_is_kept_and_is_false_if_it_is_not_given(self):
        self.assertIs(Rules(LOOK, HASTY).closed, False)
        self.assertIs(Rules(LOOK, HASTY, closed=False).closed, False)
        self.assertIs(Rules(LOOK, HASTY, closed=True).closed, True)
        self.assertIs(two_cells(closed=True).closed, True)

    def test_they_are_properties(self):
        for name in ("pattern", "courses", "closed"):
            self.assertIsInstance(vars(Rules)[name], property)
            with self.assertRaises(AttributeError):
                setattr(Rules.hasty(), name, None)

    def test_what_is_handed_in_is_not_changed_and_may_be_changed_behind(self):
        courses = dict(HASTY)
        rules = Rules(LOOK, courses)
        self.assertEqual(courses, HASTY)
        self.assertEqual(list(courses), list(HASTY))
        courses[(1, "plain")] = OUT
        del courses[(1, "sure")]
        courses[(1, "more")] = OUT
        self.assertEqual([rules.courses, len(rules), rules.words(1)], [HASTY, 11, ["plain", "sure"]])

    def test_what_is_returned_is_new_each_time(self):
        rules = Rules.careful()
        first = rules.courses
        first.clear()
        words = rules.words(1)
        words.append("more")
        places = rules.places()
        places.reverse()
        self.assertEqual(rules.courses, CAREFUL)
        self.assertEqual(rules.words(1), ["busy", "plain", "sure"])
        self.assertEqual(rules.places(), sorted(places))
        self.assertEqual(len(rules), 16)

    def test_words_are_ascending_and_those_of_the_cell(self):
        rules = two_cells()
        self.assertEqual([rules.words(1), rules.words(2)], [["busy", "plain", "sure"], ["one", "plain"]])
        self.assertEqual(rules.words(cell=2), ["one", "plain"])
        turned = Rules(LOOK, {(1, "z"): OUT, (1, "plain"): OUT, (1, "b"): OUT, (1, "ba"): OUT})
        self.assertEqual(turned.words(1), ["b", "ba", "plain", "z"])

    def test_the_sequence_of_keys_means_nothing(self):
        turned = {key: CAREFUL[key] for key in reversed(list(CAREFUL))}
        rules = Rules(LOOK, turned)
        self.assertEqual(rules, Rules.careful())
        self.assertEqual(rules.places(), Rules.careful().places())
        self.assertEqual(rules.courses, CAREFUL)


class EqualityTest(unittest.TestCase):
    def test_equal(self):
        for make in (Rules.careful, Rules.hasty, two_cells, lambda: Rules.plain(ADD_TELL)):
            self.assertTrue(make() == make())
            self.assertFalse(make() != make())

    def test_another_pattern(self):
        self.assertFalse(Rules.plain(ADD_TELL) == Rules.plain(("add", "add")))
        self.assertFalse(Rules.plain(LOOK) == Rules.plain(LOOK_ADD))

    def test_other_courses(self):
        self.assertFalse(Rules(LOOK, {(1, "plain"): OUT}) == Rules(LOOK, {(1, "plain"): LATE}))
        self.assertFalse(Rules(LOOK, {(1, "plain"): OUT}) == Rules(LOOK, {(1, "plain"): OUT, (1, "a"): OUT}))

    def test_closed_or_not(self):
        self.assertFalse(two_cells() == two_cells(closed=True))
        self.assertTrue(two_cells() != two_cells(closed=True))
        self.assertFalse(Rules(LOOK, HASTY) == Rules(LOOK, HASTY, closed=True))

    def test_any_value(self):
        rules = Rules(LOOK, {(1, "plain"): LATE, (1, "b"): LATE})
        for value in [*odd_values(), rules.courses, rules.pattern, (LOOK, rules.courses, False)]:
            self.assertIs(rules == value, False)
            self.assertIs(rules != value, True)
            self.assertIs(value == rules, False)


class PlacesTest(unittest.TestCase):
    def test_places_of_courses_deep_in_others(self):
        rules = with_course(LOOK, (1, "plain"), NESTED, words=[(1, "a")])
        moves = {(1, "plain", path): move for path, move in NESTED_MOVES.items()}
        moves[(1, "a", (0,))] = ("out",)
        self.assertEqual(len(rules), 10)
        self.assertEqual(rules.places(), sorted(moves))
        for place, move in moves.items():
            with self.subTest(place):
                self.assertIn(place, rules)
                self.assertEqual(rules[place], move)

    def test_places_of_two_cells(self):
        rules = Rules.plain(ADD_TELL)
        self.assertEqual(rules.places(), [(1, "plain", (0,)), (1, "plain", (1,)), (2, "plain", (0,)),
                                          (2, "plain", (1,))])
        self.assertEqual([rules[place] for place in rules.places()], [("do", 1), ("on",), ("do", 2), ("out",)])

    def test_places_are_ascending_by_number(self):
        rules = with_course(LOOK, (1, "plain"), steady(12))
        self.assertEqual(rules.places(), [(1, "plain", (at,)) for at in range(12)])

    def test_places_are_ascending_by_cell_and_word(self):
        for rules in (Rules.careful(), two_cells()):
            places = rules.places()
            self.assertEqual(places, sorted(places))
            self.assertEqual(len(places), len(rules))
            self.assertEqual(len(set(places)), len(rules))

    def test_values_that_are_no_places(self):
        rules = with_course(LOOK, (1, "plain"), NESTED)
        values = [(1, "plain", (3,)), (1, "plain", (-1,)), (1, "plain", ()), (1, "plain", (1, 0)), (1, "plain", (0, 3)),
                  (1, "plain", (0, 0, 0)), (1, "plain", (0, 1, 3)), (1, "plain", (0, 1, 0, 0)), (1, "plain", (10**59,)),
                  (2, "plain", (0,)), (0, "plain", (0,)), (1, "sure", (0,)), (1, "", (0,)), (1, "plain"),
                  (1, "plain", (0,), 0), (1, "plain", 0), (1, "plain", [0]), [1, "plain", (0,)], (1, ["plain"], (0,)),
                  (True, "plain", (0,)), (1, "plain", (False,)), (1, "plain", (True,)), (1, "plain", (0, True)),
                  (1, "plain", (False, 0)), (None, "plain", (0,)), (1, None, (0,)), (1, "plain", None),
                  (1, "plain", (None,)), (1, "plain", ((0,),)), (1, "plain", "0"), (1, "plain", ("0",)),
                  ([1], "plain", (0,)), (1, {}, (0,)), (1, "plain", ({},)), (1, "plain", (0, [1])), ("plain", 1, (0,))]
        for value in [*values, *odd_values()]:
            self.assertIs(value in rules, False)
            with self.assertRaises(NoPlace) as held:
                rules[value]
            self.assertIs(held.exception.value, value)
        for value in odd_values():
            for whole in ((value, "plain", (0,)), (1, value, (0,)), (1, "plain", value), (1, "plain", (value,)),
                          (1, "plain", (0, value))):
                self.assertIs(whole in rules, False)
                with self.assertRaises(NoPlace) as held:
                    rules[whole]
                self.assertIs(held.exception.value, whole)

    def test_rules_are_not_iterated_over(self):
        self.assertRaises(TypeError, iter, Rules.careful())


class ChangedTest(unittest.TestCase):
    def rules(self, course=NESTED, closed=False):
        return with_course(LOOK, (1, "plain"), course, words=[(1, "a")], closed=closed)

    def test_without(self):
        note, inner = NESTED[0][1][0], NESTED[0][1][1]
        expected = {
            (0,): NESTED[1:],
            (0, 0): (("key", (inner, ("out",))), *NESTED[1:]),
            (0, 1): (("key", (note, ("out",))), *NESTED[1:]),
            (0, 1, 0): (("key", (note, ("is", 1, "plain", (("wipe", "key"), ("out",))), ("out",))), *NESTED[1:]),
            (0, 1, 1): (("key", (note, ("is", 1, "plain", (("do", 1), ("out",))), ("out",))), *NESTED[1:]),
            (1,): (NESTED[0], ("out",)),
        }
        for path, course in expected.items():
            with self.subTest(path):
                self.assertEqual(self.rules().without((1, "plain", path)), self.rules(course))
                self.assertEqual(self.rules().without(place=(1, "plain", path)), self.rules(course))

    def test_without_an_end_is_no_course(self):
        rules = self.rules()
        for place in ((1, "plain", (2,)), (1, "plain", (0, 2)), (1, "plain", (0, 1, 2)), (1, "a", (0,))):
            with self.subTest(place), self.assertRaises(BadCourse) as held:
                rules.without(place)
            self.assertEqual(held.exception.place, place[:2])
        self.assertEqual(rules, self.rules())

    def test_exchanged(self):
        note, inner = NESTED[0][1][0], NESTED[0][1][1]
        expected = {
            (0,): (("trust",), NESTED[0], ("out",)),
            (0, 0): (("key", (inner, note, ("out",))), *NESTED[1:]),
            (0, 1, 0): (("key", (note, ("is", 1, "plain", (("wipe", "key"), ("do", 1), ("out",))), ("out",))),
                        *NESTED[1:]),
        }
        for path, course in expected.items():
            with self.subTest(path):
                self.assertEqual(self.rules().exchanged((1, "plain", path)), self.rules(course))
                self.assertEqual(self.rules().exchanged(place=(1, "plain", path)), self.rules(course))

    def test_exchanged_in_a_longer_course(self):
        course = (("do", 1), ("set", "key"), ("set", "note"), ("wipe", "key"), ("out",))
        changed = self.rules(course).exchanged((1, "plain", (1,)))
        self.assertEqual(changed.courses[(1, "plain")], (course[0], course[2], course[1], *course[3:]))

    def test_exchanged_with_an_end_is_no_course(self):
        rules = self.rules()
        for place in ((1, "plain", (1,)), (1, "plain", (0, 1)), (1, "plain", (0, 1, 1))):
            with self.subTest(place), self.assertRaises(BadCourse) as held:
                rules.exchanged(place)
            self.assertEqual(held.exception.place, (1, "plain"))
        self.assertEqual(rules, self.rules())

    def test_exchanged_where_there_is_no_next_move(self):
        rules = self.rules()
        for place in ((1, "plain", (2,)), (1, "plain", (0, 2)), (1, "plain", (0, 1, 2)), (1, "a", (0,))):
            with self.subTest(place), self.assertRaises(NoPlace) as held:
                rules.exchanged(place)
            self.assertIs(held.exception.value, place)

    def test_any_value_that_is_no_place(self):
        rules = self.rules()
        more = [(1, "plain", (3,)), (1, "plain", (-1,)), (True, "plain", (0,)), (1, "plain", (False,)), (1, "b", (0,)),
                (1, "plain", [0]), [1, "plain", (0,)], (2, "plain", (0,)), (1, "plain", ())]
        for value in [*odd_values(), *more]:
            for change in (rules.without, rules.exchanged):
                with self.assertRaises(NoPlace) as held:
                    change(value)
                self.assertIs(held.exception.value, value)
        self.assertEqual(rules, self.rules())

    def test_both_leave_the_rules_as_they_are_and_keep_closed(self):
        for closed in (False, True):
            rules = self.rules(closed=closed)
            self.assertIs(rules.without((1, "plain", (1,))).closed, closed)
            self.assertIs(rules.exchanged((1, "plain", (0,))).closed, closed)
            self.assertEqual(rules, self.rules(closed=closed))

    def test_the_second_cell(self):
        rules = Rules.plain(ADD_TELL)
        self.assertEqual(rules.without((2, "plain", (0,))).courses, {(1, "plain"): (("do", 1), ("on",)),
                                                                  (2, "plain"): (("out",),)})
        with self.assertRaises(BadCourse) as held:
            rules.exchanged((2, "plain", (0,)))
        self.assertEqual(held.exception.place, (2, "plain"))
        with self.assertRaises(BadCourse) as held:
            rules.without((1, "plain", (1,)))
        self.assertEqual(held.exception.place, (1, "plain"))

    def test_every_place_of_some_rules(self):
        for rules in (Rules.careful(), Rules.hasty(), two_cells(), two_cells(closed=True)):
            for place in rules.places():
                if rules[place][0] in ("on", "out"):
                    self.assertRaises(BadCourse, rules.without, place)
                    self.assertRaises(NoPlace, rules.exchanged, place)
                    continue
                self.assertLess(len(rules.without(place)), len(rules))
                behind = (*place[:2], (*place[2][:-1], place[2][-1] + 1))
                if rules[behind][0] in ("on", "out"):
                    self.assertRaises(BadCourse, rules.exchanged, place)
                    continue
                turned = rules.exchanged(place)
                self.assertEqual([turned[place], turned[behind]], [rules[behind], rules[place]])
                self.assertEqual(turned.exchanged(place), rules)


if __name__ == "__main__":
    unittest.main()
