"""Points [5], [7], [8]: what are rules, and what is refused, in which sequence."""

import unittest

from tests.samples import ADD_TELL, LATE, LOOK, LOOK_ADD, OUT, deep, odd_values, steady, wide, with_course
from warmsteps.errors import BadCourse, BadCourses, BadPattern
from warmsteps.rules import Rules


def is_accepted(pattern, courses):
    """Whether these are rules; an error must be one of the three, and hold the very value or a key."""
    try:
        Rules(pattern, courses)
    except (BadPattern, BadCourses, BadCourse):
        return False
    return True


class PatternTest(unittest.TestCase):
    def refused(self, pattern):
        with self.assertRaises(BadPattern) as held:
            Rules(pattern, {(1, "plain"): OUT, (2, "plain"): OUT})
        self.assertIs(held.exception.value, pattern)
        with self.assertRaises(BadPattern) as held:
            Rules.plain(pattern)
        self.assertIs(held.exception.value, pattern)

    def test_all_patterns(self):
        for first in ("look", "add", "tell", "take"):
            for second in ("add", "tell", "take"):
                with self.subTest((first, second)):
                    self.assertEqual(Rules.plain((first, second)).pattern, (first, second))
        self.assertEqual(Rules.plain(LOOK).pattern, LOOK)

    def test_words_that_stand_in_no_pattern(self):
        for word in ("jump", "branch", "look ", "Look", "", "lookadd", None, 1, True, ("look",), ["look"]):
            with self.subTest(word):
                self.refused((word,))
                self.refused((word, "add"))
                self.refused(("add", word))

    def test_one_cell_only_looks(self):
        for word in ("add", "tell", "take"):
            self.refused((word,))

    def test_the_second_word_does_not_look(self):
        for first in ("look", "add", "tell", "take"):
            self.refused((first, "look"))

    def test_no_words_and_three(self):
        self.refused(())
        self.refused(("add", "add", "add"))
        self.refused(("look", "add", "tell"))

    def test_lists_are_none(self):
        self.refused(["look"])
        self.refused(["look", "add"])
        self.refused("look")
        self.refused({"look": "add"})

    def test_any_value(self):
        for value in odd_values():
            self.refused(value)


class CoursesTest(unittest.TestCase):
    def refused(self, pattern, courses):
        with self.assertRaises(BadCourses) as held:
            Rules(pattern, courses)
        self.assertIs(held.exception.value, courses)

    def test_any_value_that_is_no_dict(self):
        for value in odd_values():
            if not isinstance(value, dict):
                self.refused(LOOK, value)
        self.refused(LOOK, [((1, "plain"), OUT)])
        self.refused(LOOK, (((1, "plain"), OUT),))

    def test_no_courses(self):
        self.refused(LOOK, {})

    def test_plain_is_lacking(self):
        self.refused(LOOK, {(1, "sure"): OUT})
        self.refused(LOOK_ADD, {(1, "plain"): OUT})
        self.refused(LOOK_ADD, {(2, "plain"): OUT})
        self.refused(LOOK_ADD, {(1, "plain"): OUT, (2, "sure"): OUT})
        self.refused(ADD_TELL, {(1, "sure"): OUT, (2, "plain"): OUT})

    def test_keys_that_are_none(self):
        keys = [(2, "plain"), (0, "plain"), (-1, "plain"), (10**59, "plain"), (True, "sure"), ("1", "plain"),
                (None, "plain"), (1, "Plain"), (1, ""), (1, "abcdefg"), (1, "a b"), (1, "a\n"), (1, "a1"), (1, "{"),
                (1, "`"), (1, None), (1, 1), (1,), (1, "sure", ()), "plain", 1, None, True, (), ((1, "sure"),),
                deep(tuple, 30), ("sure", 1), (1, ("sure",))]
        for key in keys:
            with self.subTest(key):
                self.refused(LOOK, {(1, "plain"): OUT, key: OUT})
                self.refused(LOOK, {key: OUT, (1, "plain"): OUT})
        self.refused(ADD_TELL, {(1, "plain"): OUT, (2, "plain"): OUT, (3, "plain"): OUT})

    def test_true_is_no_cell_of_the_only_course(self):
        self.refused(LOOK, {(True, "plain"): OUT})

    def test_words_of_one_and_of_six_letters(self):
        rules = Rules(LOOK, {(1, "plain"): OUT, (1, "a"): OUT, (1, "z"): OUT, (1, "azazaz"): OUT})
        self.assertEqual(rules.words(1), ["a", "azazaz", "plain", "z"])

    def test_six_words_and_seven(self):
        courses = {(1, word): OUT for word in ("plain", "a", "b", "c", "d", "e")}
        self.assertEqual(len(Rules(LOOK, courses)), 6)
        courses[(1, "f")] = OUT
        self.refused(LOOK, courses)

    def test_six_words_and_seven_of_two_cells(self):
        courses = {(cell, word): OUT for cell in (1, 2) for word in ("plain", "a", "b", "c", "d", "e")}
        self.assertEqual(len(Rules(ADD_TELL, courses)), 12)
        for cell in (1, 2):
            with self.subTest(cell):
                self.refused(ADD_TELL, {**courses, (cell, "f"): OUT})

    def test_forty_moves_and_more(self):
        courses = {(1, "plain"): steady(12), (1, "a"): steady(12), (1, "b"): steady(12), (1, "c"): steady(4)}
        self.assertEqual(len(Rules(LOOK, courses)), 40)
        courses[(1, "c")] = steady(5)
        self.refused(LOOK, courses)

    def test_forty_moves_of_two_cells_and_more(self):
        courses = {(1, "plain"): steady(12), (1, "a"): steady(12), (2, "plain"): steady(12), (2, "a"): steady(4)}
        self.assertEqual(len(Rules(ADD_TELL, courses)), 40)
        self.refused(ADD_TELL, {**courses, (2, "a"): steady(5)})

    def test_forty_moves_with_those_of_other_courses_and_more(self):
        for many, last in ((40, 4), (41, 5)):
            inner = (("key", steady(last)), *steady(11))
            courses = {(1, "plain"): (("key", inner), *steady(11)), (1, "a"): steady(12)}
            self.assertEqual(1 + 11 + 1 + 11 + last + 12, many)
            if many == 40:
                self.assertEqual(len(Rules(LOOK, courses)), 40)
            else:
                self.refused(LOOK, courses)

    def test_very_many_moves_are_no_error_of_a_course(self):
        inner = tuple(("key", steady(12)) for _ in range(11)) + OUT
        outer = tuple(("key", inner) for _ in range(11)) + OUT
        self.refused(LOOK, {(1, word): outer for word in ("plain", "a", "b", "c", "d", "e")})


class SequenceTest(unittest.TestCase):
    def test_the_pattern_is_judged_first(self):
        for courses in (None, {}, {(1, "plain"): ()}):
            with self.assertRaises(BadPattern) as held:
                Rules("look", courses)
            self.assertEqual(held.exception.value, "look")

    def test_keys_are_judged_ahead_of_courses(self):
        courses = {(1, "plain"): None, (2, "plain"): OUT}
        with self.assertRaises(BadCourses) as held:
            Rules(LOOK, courses)
        self.assertIs(held.exception.value, courses)

    def test_the_number_of_words_is_judged_ahead_of_courses(self):
        courses = {(1, word): None for word in ("plain", "a", "b", "c", "d", "e", "f")}
        self.assertRaises(BadCourses, Rules, LOOK, courses)

    def test_plain_is_asked_ahead_of_courses(self):
        self.assertRaises(BadCourses, Rules, LOOK_ADD, {(1, "plain"): None, (1, "a"): None})

    def test_the_first_key_ascending_is_told(self):
        keys = [(2, "plain"), (2, "a"), (1, "z"), (1, "plain"), (1, "b")]
        for lacking in range(len(keys)):
            courses = {key: OUT for key in keys}
            for key in keys[:lacking + 1]:
                courses[key] = None
            with self.subTest(lacking), self.assertRaises(BadCourse) as held:
                Rules(ADD_TELL, courses)
            self.assertEqual(held.exception.place, min(keys[:lacking + 1]))
            with self.subTest(lacking), self.assertRaises(BadCourse) as held:
                Rules(ADD_TELL, {key: courses[key] for key in reversed(keys)})
            self.assertEqual(held.exception.place, min(keys[:lacking + 1]))

    def test_a_course_that_is_none_is_told_ahead_of_too_many_moves(self):
        courses = {(1, word): steady(12) for word in ("plain", "a", "b", "c")}
        courses[(1, "z")] = ()
        with self.assertRaises(BadCourse) as held:
            Rules(LOOK, courses)
        self.assertEqual(held.exception.place, (1, "z"))

    def test_a_call_that_raises_changes_nothing(self):
        courses = {(1, "plain"): [("out",)], (1, "z"): OUT}
        self.assertRaises(BadCourse, Rules, LOOK, courses)
        self.assertEqual(courses, {(1, "plain"): [("out",)], (1, "z"): OUT})
        self.assertEqual(list(courses), [(1, "plain"), (1, "z")])

    def test_closed_is_given_by_name_only(self):
        self.assertRaises(TypeError, Rules, LOOK, {(1, "plain"): OUT}, True)
        rules = Rules(closed=True, courses={(1, "plain"): OUT}, pattern=LOOK)
        self.assertIs(rules.closed, True)


class CourseTest(unittest.TestCase):
    def taken(self, pattern, key, course, words=()):
        self.assertEqual(with_course(pattern, key, course, words=words).courses[key], course)

    def refused(self, pattern, key, course, words=()):
        with self.assertRaises(BadCourse) as held:
            with_course(pattern, key, course, words=words)
        self.assertEqual(held.exception.place, key)

    def test_courses_of_no_moves_one_twelve_and_thirteen(self):
        for pattern, cell in ((LOOK, 1), (LOOK_ADD, 1), (LOOK_ADD, 2), (ADD_TELL, 1), (ADD_TELL, 2)):
            key = (cell, "plain")
            self.refused(pattern, key, ())
            for many in (1, 2, 11, 12):
                self.taken(pattern, key, steady(many))
            self.refused(pattern, key, steady(13))
            self.refused(pattern, key, steady(41))

    def test_other_courses_of_no_moves_one_twelve_and_thirteen(self):
        for many, right in ((0, False), (1, True), (12, True), (13, False)):
            other = steady(many) if many else ()
            for course in ((("key", other), *OUT), (("key", (("key", other), *OUT)), *OUT)):
                if right:
                    self.taken(LOOK, (1, "plain"), course)
                else:
                    self.refused(LOOK, (1, "plain"), course)

    def test_other_courses_two_deep_and_three_deep(self):
        for check in (("key",), ("is", 1, "plain"), ("claim", 1, "plain", "plain")):
            course = OUT
            for levels in range(5):
                with self.subTest((check, levels)):
                    if levels <= 2:
                        self.taken(LOOK, (1, "plain"), course)
                    else:
                        self.refused(LOOK, (1, "plain"), course)
                course = (("note",), (*check, course), ("out",))

    def test_deep_other_courses_behind_flat_ones(self):
        one = (("key", OUT), *OUT)
        two = (("key", one), *OUT)
        self.taken(LOOK, (1, "plain"), (("key", OUT), ("key", one), *OUT))
        self.refused(LOOK, (1, "plain"), (("key", OUT), ("key", one), ("key", two), *OUT))

    def test_just_the_last_move_is_an_end(self):
        self.refused(LOOK, (1, "plain"), (("do", 1),))
        self.refused(LOOK, (1, "plain"), (("out",), ("do", 1)))
        self.refused(LOOK, (1, "plain"), (("out",), ("out",)))
        self.refused(LOOK, (1, "plain"), (("do", 1), ("out",), ("out",)))
        self.refused(LOOK_ADD, (1, "plain"), (("on",), ("out",)))
        self.refused(LOOK_ADD, (1, "plain"), (("on",), ("on",)))
        self.refused(LOOK, (1, "plain"), (("key", OUT),))
        self.taken(LOOK_ADD, (1, "plain"), (("on",),))

    def test_just_the_last_move_of_other_courses_is_an_end(self):
        for other in (LATE[:1], (("out",), ("out",)), (("out",), ("do", 1)), (("key", OUT),)):
            self.refused(LOOK, (1, "plain"), (("key", other), *OUT))
            self.refused(LOOK, (1, "plain"), (("key", (("key", other), *OUT)), *OUT))

    def test_any_value_as_course(self):
        for value in odd_values():
            self.refused(LOOK, (1, "plain"), value)
            self.refused(ADD_TELL, (2, "plain"), value)
            self.refused(LOOK, (1, "plain"), (("key", value), ("out",)))
            self.refused(LOOK, (1, "plain"), (("key", (("is", 1, "plain", value), ("out",))), ("out",)))

    def test_any_value_as_move(self):
        for value in odd_values():
            self.refused(LOOK, (1, "plain"), (value, ("out",)))
            self.refused(LOOK, (1, "plain"), (("do", 1), value))
            self.refused(LOOK, (1, "plain"), (value,))

    def test_lists_are_no_courses_and_no_moves(self):
        self.refused(LOOK, (1, "plain"), [("out",)])
        self.refused(LOOK, (1, "plain"), (["out"],))
        self.refused(LOOK, (1, "plain"), (["do", 1], ("out",)))
        self.refused(LOOK, (1, "plain"), (("key", [("out",)]), ("out",)))
        self.refused(LOOK, (1, "plain"), (("key", (["out"],)), ("out",)))

    def test_a_course_of_endless_width_is_refused(self):
        self.refused(LOOK, (1, "plain"), wide(200))


class MoveTest(unittest.TestCase):
    FORMS = {
        "key": [("key", OUT)],
        "is": [("is", 1, "plain", OUT)],
        "claim": [("claim", 1, "plain", "sure", OUT), ("claim", 1, "plain", "plain", OUT)],
        "note": [("note",)],
        "set": [("set", "key"), ("set", "note")],
        "wipe": [("wipe", "key"), ("wipe", "note")],
        "word": [("word", 1, "sure")],
        "do": [("do", 1)],
        "trust": [("trust",)],
    }
    LOOKING = ("key", "note", "set", "wipe", "trust")

    def put(self, move, around):
        """The course with this move, in so many other courses."""
        course = (move,) if move[0] in ("on", "out") else (move, ("out",))
        for _ in range(around):
            course = (("is", 1, "plain", course), ("out",))
        return course

    def judged(self, pattern, cell, move, around):
        courses = {(at, word): OUT for at in range(1, len(pattern) + 1) for word in ("plain", "sure")}
        courses[(cell, "plain")] = self.put(move, around)
        return is_accepted(pattern, courses)

    def test_where_each_may_stand(self):
        for pattern in (LOOK, LOOK_ADD, ADD_TELL, ("look", "take"), ("take", "take")):
            for cell in range(1, len(pattern) + 1):
                for name, moves in self.FORMS.items():
                    right = name not in self.LOOKING or (cell == 1 and pattern[0] == "look")
                    for move in moves:
                        for around in (0, 1):
                            with self.subTest((pattern, cell, move, around)):
                                self.assertEqual(self.judged(pattern, cell, move, around), right)

    def test_where_each_may_stand_two_deep(self):
        for pattern, cell in ((LOOK, 1), (LOOK_ADD, 1), (LOOK_ADD, 2), (ADD_TELL, 1), (ADD_TELL, 2)):
            for name, moves in self.FORMS.items():
                if name in ("key", "is", "claim"):
                    continue
                right = name not in self.LOOKING or (cell == 1 and pattern[0] == "look")
                for move in moves:
                    with self.subTest((pattern, cell, move)):
                        self.assertEqual(self.judged(pattern, cell, move, 2), right)

    def test_where_the_ends_may_stand(self):
        for pattern in (LOOK, LOOK_ADD, ADD_TELL):
            for cell in range(1, len(pattern) + 1):
                for around in (0, 1, 2):
                    with self.subTest((pattern, cell, around)):
                        self.assertTrue(self.judged(pattern, cell, ("out",), around))
                        right = cell == 1 and len(pattern) == 2
                        self.assertEqual(self.judged(pattern, cell, ("on",), around), right)

    def test_cells_are_those_of_the_pattern(self):
        for pattern in (LOOK, LOOK_ADD, ADD_TELL):
            for cell in range(1, len(pattern) + 1):
                for named in (0, 1, 2, 3, -1, 10**59, True, False, "1", None, (1,), [1]):
                    right = named in (1, 2)[:len(pattern)] and not isinstance(named, bool)
                    for move in (("do", named), ("word", named, "plain"), ("is", named, "plain", OUT),
                                 ("claim", named, "plain", "plain", OUT)):
                        with self.subTest((pattern, cell, move)):
                            self.assertEqual(self.judged(pattern, cell, move, 0), right)

    def test_words_are_those_of_the_cell_that_is_named(self):
        words = {1: ("plain", "a"), 2: ("plain", "b")}
        keys = [(cell, word) for cell in words for word in words[cell]]
        for cell in (1, 2):
            for named in (1, 2):
                for word in ("plain", "a", "b", "c", "", "abcdefg", None, 1, ["a"], ("a",)):
                    right = word in words[named]
                    for move in (("word", named, word), ("is", named, word, OUT), ("claim", named, word, "plain", OUT),
                                 ("claim", named, "plain", word, OUT)):
                        courses = {key: OUT for key in keys}
                        courses[(cell, "plain")] = (move, ("out",))
                        with self.subTest((cell, move)):
                            self.assertEqual(is_accepted(ADD_TELL, courses), right)

    def test_halves(self):
        for name in ("set", "wipe"):
            for half in ("key", "note", "Key", "", "word", None, 0, 1, True, ("key",), ["key"]):
                with self.subTest((name, half)):
                    self.assertEqual(self.judged(LOOK, 1, (name, half), 0), half in ("key", "note"))

    def test_any_value_as_a_part(self):
        for moves in self.FORMS.values():
            for move in moves:
                for at in range(len(move)):
                    for value in odd_values():
                        if move[0] == "do" and at == 0 and value == "do":
                            continue
                        changed = move[:at] + (value,) + move[at + 1:]
                        if changed == ("do", 1) and at == 0:
                            continue
                        self.assertFalse(self.judged(LOOK, 1, changed, 0), changed)

    def test_parts_too_few_and_too_many(self):
        for moves in (*self.FORMS.values(), [("on",), ("out",)]):
            for move in moves:
                with self.subTest(move):
                    self.assertFalse(self.judged(LOOK_ADD, 1, (*move, 1), 0))
                    self.assertFalse(self.judged(LOOK_ADD, 1, (*move, OUT), 0))
                    if len(move) > 1:
                        self.assertFalse(self.judged(LOOK_ADD, 1, move[:-1], 0))
        self.assertFalse(is_accepted(LOOK, {(1, "plain"): (("out", 1),)}))
        self.assertFalse(is_accepted(LOOK, {(1, "plain"): (("out", OUT),)}))

    def test_lists_are_no_moves(self):
        for moves in self.FORMS.values():
            for move in moves:
                with self.subTest(move):
                    self.assertFalse(self.judged(LOOK, 1, list(move), 0))

    def test_a_move_may_stand_in_an_open_and_in_a_closed_pattern(self):
        for closed in (False, True):
            courses = {(1, "plain"): (("do", 1), ("on",)), (2, "plain"): (("do", 2), ("out",))}
            self.assertEqual(Rules(LOOK_ADD, courses, closed=closed).closed, closed)
            self.assertEqual(Rules(LOOK, {(1, "plain"): LATE}, closed=closed).closed, closed)


if __name__ == "__main__":
    unittest.main()
