"""Points [3], [4], [5] and the heading of warmsteps/programs.py: is_program, is_value, sites_of, run."""

import random
import unittest

from tests.plain_machine import SHAPES, alone, some_program, some_values
from tests.samples import ADD_TELL, LOOK, LOOK_ADD, deep, odd_values
from warmsteps.errors import BadProgram
from warmsteps.programs import is_program, is_value, run, sites_of
from warmsteps.rules import Rules

HUGE = 10**59
RECORD = (("a", "x"), (5, 7))


def told(program, inputs, *, most=1000):
    """What run tells, for a list or a tuple alike."""
    diary, end = run(program, inputs, most=most)
    assert run(list(program), inputs, most=most) == (diary, end)
    assert type(diary) is list
    return diary, end


class FormsTest(unittest.TestCase):
    def test_programs(self):
        steps = [("take",), ("look", "x"), ("add",), ("tell",), ("jump", 0), ("branch", 6)]
        self.assertIs(is_program(steps), True)
        self.assertIs(is_program(tuple(steps)), True)
        for step in steps[:5]:
            self.assertIs(is_program([step]), True)
        self.assertIs(is_program([("jump", 1)]), True)
        for many, expected in ((0, False), (1, True), (40, True), (41, False), (500, False)):
            self.assertIs(is_program([("take",)] * many), expected)
            self.assertIs(is_program((("take",),) * many), expected)

    def test_leaps(self):
        for name in ("jump", "branch"):
            for at, expected in ((0, True), (1, True), (3, True), (4, False), (-1, False), (HUGE, False), (-HUGE, False),
                                 (True, False), (False, False), (None, False), ("1", False), ((0,), False)):
                self.assertIs(is_program([("take",), (name, at), ("add",)]), expected)

    def test_steps_that_are_none(self):
        wrong = [["take"], ("take", 1), ("look",), ("look", ""), ("look", "sixsix"), ("look", "sevenxx"), ("look", "X"),
                 ("look", "x", "y"), ("look", 1), ("look", None), ("look", ("x",)), ("jump",), ("jump", 0, 0), ("do", 1),
                 ("is",), ("add", "x"), ("tell", 0), "take", ("Take",), ("take ",), (("take",),), ("look", "x1")]
        for step in [*wrong, *odd_values()]:
            expected = step == ("look", "sixsix")
            self.assertIs(is_program([step]), expected, step)
            self.assertIs(is_program((("take",), step)), expected)
            self.assertIs(is_program([step, ("take",)]), expected)
        for value in [*odd_values(), "take", ("take",), {0: ("take",)}, 1, deep(list, 29)]:
            self.assertIs(is_program(value), False)

    def test_values(self):
        for value in (0, -1, HUGE, -HUGE, RECORD, (("x",), (0,)), (("a", "b", "c", "d"), (1, 1, 1, 1)),
                      (("sixsix",), (HUGE,))):
            self.assertIs(is_value(value), True)
        wrong = [(("a", "b", "c", "d", "e"), (1, 1, 1, 1, 1)), ((), ()), (("a", "a"), (1, 2)), (("sevenxx",), (1,)),
                 (("a",), ()), (("a",), (1, 2)), (("a", "b"), (1,)), (("",), (1,)), (("A",), (1,)), (["a"], (1,)),
                 (("a",), [1]), [("a",), (1,)], (("a",), (True,)), (("a",), ("1",)), (("a",), (RECORD,)), ("a", (1,)),
                 (("a",), 1), (("a",), (1,), 0), (("a",),), ((1,), (1,)), ((None,), (1,)), True, False, None, "a"]
        for value in [*wrong, *[value for value in odd_values() if type(value) is not int]]:
            self.assertIs(is_value(value), False, value)

    def test_by_name(self):
        self.assertIs(is_program(value=[("take",)]), True)
        self.assertIs(is_value(value=3), True)
        self.assertEqual(sites_of(program=[("take",), ("look", "x")], rules=Rules.careful()), [1])
        self.assertEqual(run(program=[("take",)], inputs=[1], most=5), ([(0, 1)], "over"))


class SitesTest(unittest.TestCase):
    def sites(self, program, pattern):
        """The sites of open rules of a pattern and of closed ones."""
        rules = Rules.plain(pattern)
        found = sites_of(program, rules)
        self.assertEqual(sites_of(list(program), rules), found)
        return found, sites_of(program, Rules(pattern, rules.courses, closed=True))

    def test_each_pattern(self):
        words = ("look", "add", "tell", "take")
        program = tuple(("look", "x") if word == "look" else (word,) for first in words for second in words
                        for word in (first, second))
        for first in words:
            for second in words[1:]:
                expected = [at for at in range(len(program) - 1)
                            if (program[at][0], program[at + 1][0]) == (first, second)]
                self.assertEqual(self.sites(program, (first, second)), (expected, expected))
        looks = [at for at, step in enumerate(program) if step[0] == "look"]
        self.assertEqual(self.sites(program, LOOK), (looks, looks))

    def test_closed_rules(self):
        program = (("look", "x"), ("add",), ("take",), ("look", "y"), ("add",), ("jump", 4), ("branch", 0))
        self.assertEqual(self.sites(program, LOOK_ADD), ([0, 3], [0]))
        self.assertEqual(self.sites(program, LOOK), ([0, 3], [0, 3]))
        self.assertEqual(self.sites((*program[:5], ("branch", 1), ("jump", 3)), LOOK_ADD), ([0, 3], [3]))
        # One that is never done leads there all the same; one cell has no second one.
        self.assertEqual(self.sites((("jump", 3), ("look", "x"), ("add",), ("jump", 2)), LOOK_ADD), ([1], []))
        self.assertEqual(self.sites((("look", "x"), ("jump", 1), ("jump", 0)), LOOK), ([0], [0]))

    def test_at_the_end_and_with_a_place_in_common(self):
        self.assertEqual(self.sites((("look", "x"),), LOOK_ADD), ([], []))
        self.assertEqual(self.sites((("take",), ("look", "x")), LOOK), ([1], [1]))
        adds = (("add",),) * 4
        self.assertEqual(self.sites(adds, ("add", "add")), ([0, 1, 2], [0, 1, 2]))
        self.assertEqual(self.sites(adds, ADD_TELL), ([], []))

    def test_no_program(self):
        for value in [*odd_values(), (), [("jump", 2)], [["take"]]]:
            for call in (lambda: sites_of(value, Rules.careful()), lambda: run(value, []),
                         lambda: run(value, [], most=0)):
                with self.assertRaises(BadProgram) as caught:
                    call()
                self.assertIs(caught.exception.value, value)


class RunTest(unittest.TestCase):
    def test_the_document(self):
        self.assertEqual(run((("take",), ("look", "x"), ("tell",), ("jump", 0)), [RECORD, 3]),
                         ([(0, RECORD), (1, 7), (2, 7), (3, None), (0, 3)], "faulted"))

    def test_each_step(self):
        self.assertEqual(told([("take",), ("take",), ("add",), ("tell",)], [3, -5]),
                         ([(0, 3), (1, -5), (2, -2), (3, -2)], "over"))
        self.assertEqual(told([("take",), ("branch", 3), ("jump", 0), ("take",)], [0, 9]),
                         ([(0, 0), (1, None), (3, 9)], "over"))
        self.assertEqual(told([("take",), ("branch", 3), ("jump", 0), ("take",)], [1, 0]),
                         ([(0, 1), (1, None), (2, None), (0, 0), (1, None)], "over"))
        self.assertEqual(told([("jump", 1)], []), ([(0, None)], "over"))
        self.assertEqual(told([("take",), ("take",), ("take",), ("tell",), ("add",)], [1, 2, 4])[0][3:], [(3, 4), (4, 3)])
        self.assertEqual(told([("take",), ("take",), ("take",), ("add",), ("add",)], [1, 2, 4])[0][3:], [(3, 6), (4, 7)])
        self.assertEqual(told([("take",), ("take",), ("branch", 0), ("tell",)], [7, 1])[0][2:], [(2, None), (3, 7)])
        self.assertEqual(told([("take",), ("look", "a")], [RECORD]), ([(0, RECORD), (1, 5)], "over"))
        self.assertEqual(told([("take",), ("take",), ("add",)], [HUGE, HUGE])[0][2], (2, 2 * HUGE))

    def test_faults(self):
        for program, inputs, done in (
                ([("look", "x")], [], 0), ([("add",)], [1], 0), ([("tell",)], [1], 0), ([("branch", 0)], [1], 0),
                ([("take",), ("add",)], [1], 1), ([("take",), ("look", "x")], [1], 1),
                ([("take",), ("look", "b")], [RECORD], 1), ([("take",), ("look", "xx")], [RECORD], 1),
                ([("take",), ("tell",)], [RECORD], 1), ([("take",), ("branch", 0)], [RECORD], 1),
                ([("take",), ("take",), ("add",)], [1, RECORD], 2), ([("take",), ("take",), ("add",)], [RECORD, 1], 2)):
            diary, end = told(program, inputs)
            self.assertEqual((len(diary), end), (done, "faulted"), program)
            # The step by which it is faulted is not done, and is tried only if there may be one more.
            self.assertEqual(told(program, inputs, most=done), (diary, None))
            self.assertEqual(told(program, inputs, most=done + 1), (diary, "faulted"))

    def test_inputs_that_run_out(self):
        program = [("take",), ("jump", 0)]
        self.assertEqual(told(program, []), ([], "over"))
        self.assertEqual(told(program, [4, 5]), ([(0, 4), (1, None), (0, 5), (1, None)], "over"))
        self.assertEqual(told(program, [4], most=2), ([(0, 4), (1, None)], None))
        self.assertEqual(told(program, [4], most=3), ([(0, 4), (1, None)], "over"))

    def test_most(self):
        program, inputs = [("take",), ("tell",)], [3]
        self.assertEqual(told(program, inputs, most=0), ([], None))
        self.assertEqual(told(program, inputs, most=1), ([(0, 3)], None))
        # With its last step it is over: no further one need be tried.
        self.assertEqual(told(program, inputs, most=2), ([(0, 3), (1, 3)], "over"))
        self.assertEqual(told(program, inputs, most=HUGE), ([(0, 3), (1, 3)], "over"))
        diary, end = run([("jump", 0)], [])
        self.assertEqual((len(diary), end), (1000, None))
        with self.assertRaises(TypeError):
            run(program, inputs, 3)

    def test_many_programs(self):
        ends = {"over": 0, "faulted": 0, None: 0}
        for number in range(600):
            chance = random.Random(number)
            program = some_program(chance)
            inputs = some_values(chance, SHAPES, 12)
            self.assertIs(is_program(program), True)
            self.assertTrue(all(is_value(value) for value in inputs))
            kept = list(inputs)
            for most in (0, 1, 7, 60):
                self.assertEqual(told(program, inputs, most=most), alone(program, inputs, most))
            ends[run(program, inputs, most=60)[1]] += 1
            self.assertEqual(inputs, kept)
        self.assertGreater(min(ends.values()), 20)

    def test_what_is_told_is_new(self):
        program, inputs = [("take",), ("jump", 0)], [1, 2]
        diary, _ = run(program, inputs)
        diary.clear()
        self.assertEqual(len(run(program, inputs)[0]), 4)
        self.assertEqual(program, [("take",), ("jump", 0)])
        sites = sites_of([("look", "x")], Rules.careful())
        sites.clear()
        self.assertEqual(sites_of([("look", "x")], Rules.careful()), [0])


if __name__ == "__main__":
    unittest.main()
