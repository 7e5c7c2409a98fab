"""Point [15] and the heading of warmsteps/showing.py: shown, window_of."""

import unittest

from tests.large import wrong_by_four
from tests.making import made
from tests.plain_machine import SlowMachine, alone
from tests.samples import (ADD_TELL, LOOK, OUT, fused, hoard, ladder, odd_values, reread, two_cells,
                           with_course)
from warmsteps.errors import BadShapes, NoSite, NotWrong
from warmsteps.least import least_weaving
from warmsteps.machines import Machine
from warmsteps.programs import is_program, is_value, sites_of
from warmsteps.rules import Rules
from warmsteps.showing import shown, window_of
from warmsteps.verdicts import is_weaving, verdict

HASTY = Rules.hasty()
HUGE = 10**59
XA, AX, B = (("x", "a"), (7, 5)), (("a", "x"), (5, 8)), (("b",), (4,))
LOOP = (("take",), ("look", "x"), ("tell",), ("jump", 0))
PATTERNS = [LOOK] + [(first, second) for first in ("look", "add", "tell", "take")
                     for second in ("add", "tell", "take")]


class ShownTest(unittest.TestCase):
    def check(self, rules, shapes, weaving):
        """The program shows it: also to a machine that is written down otherwise."""
        kept = list(weaving)
        told = shown(rules, shapes, weaving)
        self.assertEqual(weaving, kept)
        self.assertIs(type(told), tuple)
        program, site, inputs, hands = told
        self.assertTrue(is_program(program))
        self.assertIn(site, sites_of(program, rules))
        self.assertTrue(all(is_value(value) for values in inputs for value in values))
        self.assertEqual(len(inputs), len({event[0] for event in weaving}))
        machine = Machine(program, [(site, rules)], inputs)
        machine.play(hands[:-1])
        self.assertIs(machine.is_right(), True)
        self.assertEqual([machine.end(hand) for hand in range(len(inputs))], [None] * len(inputs))
        machine.move(hands[-1])
        self.assertIs(machine.is_right(), False)
        slow = SlowMachine(program, [(site, rules)], inputs)
        for number, hand in enumerate(hands):
            slow.move(hand)
            if number >= len(hands) - 2:
                self.assertEqual(all(self.is_right(program, *case) for case in zip(inputs, slow.hands)),
                                 number == len(hands) - 2)
        self.check_window(rules, machine, site, weaving)

    def is_right(self, program, values, hand):
        """Whether a hand of a slow machine did what it does alone."""
        diary, end = alone(program, values, 1000)
        if hand["end"] is None:
            return diary[:len(hand["diary"])] == hand["diary"]
        return (diary, end) == (hand["diary"], hand["end"])

    def check_window(self, rules, machine, site, weaving):
        """At the site there is the same weaving, hands and shapes numbered as they first come."""
        hands, shapes, expected = {}, {0: 0}, []
        for event in weaving:
            hand = hands.setdefault(event[0], len(hands))
            if len(event) == 3:
                event = (hand, event[1], shapes.setdefault(event[2], len(shapes)))
            expected.append((hand, *event[1:]))
        self.assertEqual(window_of(machine, site), expected)
        self.assertIs(is_weaving(rules, 3, expected), True)

    def test_the_document(self):
        self.check(HASTY, 2, verdict(HASTY, 2)[1])
        self.check(HASTY, 2, least_weaving(HASTY, 2))

    def test_one_to_five_hands(self):
        for many in (2, 3, 4, 5, 6):
            for shapes in (1, 2, 3):
                self.check(ladder(many), shapes, verdict(ladder(many), shapes)[1])
        alone_wrong = with_course(LOOK, (1, "plain"), OUT)
        self.check(alone_wrong, 1, [(0, 1, 1), (0,)])
        self.check(alone_wrong, 2, [(0, 1, 1), (1, 1, 2), (0,)])
        self.check(alone_wrong, 2, [(3, 1, 1), (1, 1, 2), (3,)])
        self.check(wrong_by_four(), 3, least_weaving(wrong_by_four(), 3))
        self.check(hoard(), 1, verdict(hoard(), 1)[1])
        self.check(reread(), 2, verdict(reread(), 2)[1])

    def test_twenty_hands(self):
        weaving = least_weaving(HASTY, 2)
        more = [(hand, 1, 1) for hand in range(50, 68)]
        self.check(HASTY, 2, more + weaving)
        self.check(HASTY, 3, more + [(50,)] * 2 + weaving)

    def test_other_numbers_of_hands_and_shapes(self):
        numbers = {0: HUGE, 1: 7}
        turned = {0: 0, 1: 3, 2: 1}
        weaving = [(numbers[event[0]], *event[1:2], *[turned[shape] for shape in event[2:]])
                   for event in least_weaving(HASTY, 2)]
        self.check(HASTY, 3, weaving)

    def test_patterns_of_each_kind(self):
        for pattern in PATTERNS:
            last = len(pattern)
            for closed in (False, True):
                plain = Rules(pattern, Rules.plain(pattern).courses, closed=closed)
                courses = plain.courses
                for course in ((("do", last),) * 2 + (("out",),), (("do", 1), ("out",)) if last == 2 else OUT, OUT):
                    rules = Rules(pattern, {**courses, (last, "plain"): course}, closed=closed)
                    self.check(rules, 2, least_weaving(rules, 2))
                if last == 2:
                    for course in ((("do", 2), ("on",)), (("on",),), OUT, (("do", 1), ("out",)),
                                   (("do", 1), ("do", 1), ("on",)), (("do", 1), ("do", 2), ("on",)),
                                   (("do", 1), ("do", 2), ("do", 1), ("on",))):
                        rules = Rules(pattern, {**courses, (1, "plain"): course}, closed=closed)
                        self.check(rules, 2, least_weaving(rules, 2))

    def test_trust(self):
        for course in ((("trust",), *OUT), (("note",), ("trust",), *OUT), (("do", 1), ("trust",), *OUT),
                       (("set", "note"), ("note",), ("trust",), ("trust",), *OUT)):
            rules = with_course(LOOK, (1, "plain"), course)
            self.check(rules, 3, least_weaving(rules, 3))
        # What it read was another's: each pair of shapes.
        rules = Rules(LOOK, {(1, "plain"): (("set", "note"), ("do", 1), ("word", 1, "a"), ("out",)),
                             (1, "a"): (("note",), ("trust",), ("out",))})
        for first in (1, 2, 3):
            for second in (1, 2, 3):
                if first != second:
                    self.check(rules, 3, [(0, 1, first), (0,), (0,), (0,), (4, 1, second), (4,), (4,)])
                    self.check(rules, 3, [(0, 1, first), (0,), (0,), (0,), (0,), (0, 1, first), (0,), (0,), (0,),
                                          (0, 1, second), (0,), (0,)])

    def test_to_the_second_cell(self):
        rules = fused(closed=False)
        self.check(rules, 1, least_weaving(rules, 1))
        for pattern in PATTERNS[1:]:
            courses = {**Rules.plain(pattern).courses, (2, "plain"): (("claim", 2, "plain", "a", OUT), ("do", 2), ("out",)),
                       (2, "a"): (("do", 2), ("out",))}
            rules = Rules(pattern, courses)
            self.check(rules, 2, least_weaving(rules, 2))
            self.check(rules, 2, [(9, 2, 0), (5, 2, 0), (9,), (9,), (5,), (5,)])

    def test_that_come_again_and_again(self):
        """Hands go through the site some times ahead of what goes wrong, by both cells."""
        for pattern in PATTERNS[1:]:
            own = 1 if pattern[0] == "look" else 0
            rules = Rules(pattern, {(1, "plain"): (("do", 1), ("on",)), (1, "a"): OUT,
                                    (2, "plain"): (("do", 2), ("word", 1, "a"), ("word", 1, "plain"), ("out",))})
            whole, half = [(7, 1, own)] + [(7,)] * 7, [(2, 2, 0)] + [(2,)] * 4
            wrong = [(2, 2, 0), (2,), (2,), (7, 1, own), (7,)]
            for weaving in (wrong, whole + wrong, half + half + whole + wrong, whole + half + whole + wrong):
                self.check(rules, 1, weaving)
        rules = Rules(LOOK, {(1, "plain"): (("do", 1), ("word", 1, "a"), ("word", 1, "plain"), ("out",)), (1, "a"): OUT})
        self.check(rules, 2, ([(1, 1, 2)] + [(1,)] * 4) * 3 + [(1, 1, 1), (1,), (1,), (0, 1, 2), (0,)])

    def test_many_rules(self):
        compared = 0
        for number in range(200):
            rules, shapes = made(number, changes=6), 1 + number % 3
            word, weaving = verdict(rules, shapes)
            if word == "wrong":
                for found in (weaving, least_weaving(rules, shapes)):
                    if found is not None and len({event[0] for event in found}) <= 20:
                        self.check(rules, shapes, found)
                        compared += 1
        self.assertGreater(compared, 100)

    def test_what_is_told_is_new_and_the_same_each_time(self):
        weaving = least_weaving(HASTY, 2)
        told = shown(rules=HASTY, shapes=2, weaving=weaving)
        again = shown(Rules.hasty(), 2, list(weaving))
        self.assertEqual(told, again)
        for part in told[2:]:
            part.clear()
        self.assertEqual(shown(HASTY, 2, weaving), again)
        self.assertIsNot(shown(HASTY, 2, weaving)[2][0], again[2][0])

    def test_errors(self):
        weaving = least_weaving(HASTY, 2)
        for value in [*odd_values(), 0, 4, HUGE]:
            for more in (weaving, None):
                with self.assertRaises(BadShapes) as caught:
                    shown(HASTY, value, more)
                self.assertIs(caught.exception.value, value)
        values = [*odd_values(), [], weaving[:-1], [*weaving, (0,)], tuple(weaving), weaving[1:], weaving[::-1],
                  [*weaving[:-1], (5,)], [*weaving[:-1], None], {0: weaving}, verdict(HASTY, 1)[1]]
        for value in values:
            with self.assertRaises(NotWrong) as caught:
                shown(HASTY, 2, value)
            self.assertIs(caught.exception.value, value)
        # For one shape the weaving of two is none.
        with self.assertRaises(NotWrong):
            shown(HASTY, 1, weaving)
        with self.assertRaises(NotWrong):
            shown(Rules.careful(), 2, weaving)


class WindowTest(unittest.TestCase):
    def machine(self):
        return Machine(LOOP, [(1, HASTY)], [[AX, XA], [XA, AX], [B]])

    def test_comings_and_moves(self):
        machine = self.machine()
        self.assertEqual(window_of(machine, 1), [])
        machine.play([0, 1, 1, 0, 1])
        # The shape that comes there first is number 1.
        self.assertEqual(window_of(machine, 1), [(1, 1, 1), (0, 1, 2), (1,)])
        machine.play([1, 1, 1, 1])
        self.assertEqual(window_of(machine, 1)[3:], [(1,)] * 4)
        # Steps behind the site, and the hand that is faulted in place of coming, are none of it.
        machine.play([1, 1, 2, 2])
        self.assertEqual(machine.end(2), "faulted")
        self.assertEqual(window_of(machine, 1)[3:], [(1,)] * 4)
        machine.play([1, 1, 0])
        self.assertEqual(window_of(machine=machine, site=1)[7:], [(1, 1, 2), (0,)])

    def test_behind_undo_and_in_a_fork(self):
        machine = self.machine()
        machine.play([0, 1, 1, 0, 1])
        other = machine.fork()
        machine.undo(4)
        self.assertEqual(window_of(machine, 1), [])
        machine.play([0, 1, 1, 0])
        self.assertEqual(window_of(machine, 1), [(0, 1, 1), (1, 1, 2), (0,)])
        self.assertEqual(window_of(other, 1), [(1, 1, 1), (0, 1, 2), (1,)])
        window_of(other, 1).clear()
        self.assertEqual(len(window_of(other, 1)), 3)

    def test_moves_by_which_hands_end(self):
        program = (("take",), ("look", "x"), ("take",))
        machine = Machine(program, [(1, Rules.plain(("look", "take")))], [[XA]])
        machine.play([0] * 5)
        self.assertEqual([window_of(machine, 1), machine.end(0)], [[(0, 1, 1), (0,), (0,), (0,)], None])
        machine.move(0)
        self.assertEqual([window_of(machine, 1), machine.end(0)], [[(0, 1, 1), (0,), (0,), (0,), (0,)], "over"])
        machine.undo(1)
        self.assertEqual(len(window_of(machine, 1)), 4)

    def test_the_second_cell(self):
        program = (("take",), ("take",), ("jump", 4), ("add",), ("tell",), ("jump", 0))
        machine = Machine(program, [(3, Rules.plain(ADD_TELL))], [[2, 3, 4, 5]])
        machine.play([0] * 7 + [0] * 3)
        self.assertEqual(window_of(machine, 3), [(0, 2, 0), (0,), (0,)])

    def test_several_sites(self):
        program = (("take",), ("look", "x"), ("take",), ("look", "x"), ("add",), ("tell",), ("jump", 0))
        machine = Machine(program, [(3, two_cells()), (1, HASTY)], [[XA, AX]])
        machine.play([0] * 8)
        machine.play([0] * 3)
        self.assertEqual(window_of(machine, 1), [(0, 1, 1)] + [(0,)] * 5)
        # Each site numbers its shapes by itself.
        self.assertEqual(window_of(machine, 3)[0], (0, 1, 1))

    def test_no_site(self):
        machine = self.machine()
        for value in [*odd_values(), 0, 2, -1, HUGE, True]:
            with self.assertRaises(NoSite) as caught:
                window_of(machine, value)
            self.assertIs(caught.exception.value, value)

    def test_shapes_of_any_number(self):
        records = [(("x", name), (1, 2)) for name in ("a", "b", "c", "d", "e")]
        machine = Machine(LOOP, [(1, Rules.plain(LOOK))], [records])
        machine.play([0] * 30)
        came = [event for event in window_of(machine, 1) if len(event) == 3]
        self.assertEqual(came, [(0, 1, number) for number in range(1, len(came) + 1)])
        self.assertEqual(len(came), 5)


if __name__ == "__main__":
    unittest.main()
