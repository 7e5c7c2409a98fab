"""Points [12], [13] and the heading of warmsteps/machines.py: class Machine."""

import random
import unittest

from tests.plain_machine import (SHAPES, SlowMachine, alone, some_placements, some_program, some_values)
from tests.samples import ADD_TELL, LATE, LOOK, LOOK_ADD, OUT, fused, odd_values, two_cells, with_course
from warmsteps.errors import (BadEvent, BadHand, BadInputs, BadPlacement, BadProgram, Ended, NoSite, TooFar)
from warmsteps.machines import Machine
from warmsteps.programs import sites_of
from warmsteps.rules import Rules

HUGE = 10**59
XA, AX, B = (("x", "a"), (7, 5)), (("a", "x"), (5, 8)), (("b",), (4,))
LOOP = (("take",), ("look", "x"), ("tell",), ("jump", 0))
CAREFUL, HASTY = Rules.careful(), Rules.hasty()
TRUSTING = with_course(LOOK, (1, "plain"), (("note",), ("trust",), ("out",)))
SUMS = (("take",), ("take",), ("look", "x"), ("add",), ("tell",), ("jump", 0))


def machine_of(rules, *inputs, program=LOOP, site=1):
    """A machine with one placement."""
    return Machine(program, [(site, rules)], list(inputs))


def run_on(machine, hand, many=1):
    """Move a hand so many times; where it is then."""
    for _ in range(many):
        machine.move(hand)
    return machine.at(hand)


def state_of(machine, hands, sites):
    """All that a machine tells of itself."""
    return ([(machine.diary(hand), machine.told(hand), machine.end(hand), machine.at(hand)) for hand in range(hands)],
            [machine.stand(site) for site in sites], machine.moves(), len(machine), machine.is_right())


class MachineTest(unittest.TestCase):
    def test_a_careful_hand(self):
        machine = machine_of(CAREFUL, [XA, XA])
        self.assertEqual([machine.at(0), machine.stand(1)], [(0, ()), ("plain", "", None, None)])
        self.assertEqual(run_on(machine, 0), (1, ()))
        # It comes, which is a move by itself.
        self.assertEqual(run_on(machine, 0), (1, CAREFUL.courses[(1, "plain")]))
        self.assertEqual(machine.diary(0), [(0, XA)])
        self.assertEqual(run_on(machine, 0), (1, CAREFUL.courses[(1, "plain")][1:]))
        self.assertEqual(machine.stand(1), ("busy", "", None, None))
        self.assertEqual(run_on(machine, 0), (1, CAREFUL.courses[(1, "plain")][2:]))
        self.assertEqual([machine.diary(0), machine.told(0)], [[(0, XA), (1, 7)], []])
        run_on(machine, 0, 3)
        self.assertEqual(machine.stand(1), ("sure", "", ("x", "a"), 0))
        self.assertEqual(run_on(machine, 0), (2, ()))
        # Again: it trusts the note.
        run_on(machine, 0, 4)
        self.assertEqual(machine.at(0), (1, CAREFUL.courses[(1, "sure")]))
        run_on(machine, 0, 3)
        self.assertEqual(machine.at(0), (1, (("out",),)))
        self.assertEqual(machine.diary(0)[-1], (1, 7))
        run_on(machine, 0, 4)
        self.assertEqual([machine.end(0), machine.told(0), machine.at(0)], ["over", [7, 7], (0, ())])
        self.assertEqual(machine.moves(), [0] * len(machine))
        self.assertIs(machine.is_right(), True)

    def test_its_own_shape_is_that_of_the_record(self):
        machine = machine_of(CAREFUL, [XA], [AX], [XA])
        machine.play([0] * 8)
        self.assertEqual(machine.stand(1), ("sure", "", ("x", "a"), 0))
        machine.play([1, 1, 1])
        self.assertEqual(machine.at(1), (1, LATE))
        machine.play([2, 2, 2])
        self.assertEqual(machine.at(2), (1, CAREFUL.courses[(1, "sure")][1:]))
        machine.play([1, 1, 2, 2, 2])
        self.assertEqual([machine.diary(1), machine.diary(2)], [[(0, AX), (1, 8)], [(0, XA), (1, 7)]])

    def test_a_look_that_could_not_be_done_when_a_hand_comes(self):
        for inputs in ([B], [3], []):
            program = LOOP if inputs else LOOP[1:]
            machine = machine_of(CAREFUL, inputs, program=program, site=1 if inputs else 0)
            run_on(machine, 0, len(inputs))
            self.assertIsNone(machine.end(0))
            self.assertEqual(run_on(machine, 0), (len(inputs), ()))
            self.assertEqual([machine.end(0), len(machine.diary(0))], ["faulted", len(inputs)])
            self.assertEqual(machine.stand(len(inputs)), ("plain", "", None, None))
            self.assertIs(machine.is_right(), True)

    def test_trust(self):
        noting = Rules(LOOK, {(1, "plain"): (("set", "note"), ("do", 1), ("word", 1, "a"), ("out",)),
                              (1, "a"): TRUSTING.courses[(1, "plain")]})
        # No place was read.
        machine = machine_of(TRUSTING, [XA])
        self.assertEqual(run_on(machine, 0, 4), (1, ()))
        self.assertEqual([machine.end(0), machine.diary(0), machine.is_right()], ["faulted", [(0, XA)], False])
        # A place beyond the record's values; the same place in another shape, which does right; another value.
        for record, end, worth, right in (((("x",), (9,)), "faulted", None, False), (AX, None, 8, True),
                                          ((("b", "a", "x"), (1, 2, 3)), None, 2, False)):
            machine = machine_of(noting, [AX], [record])
            machine.play([0] * 6 + [1] * 4)
            self.assertEqual(machine.end(1), end)
            self.assertEqual(machine.diary(1), [(0, record)] + [(1, worth)] * (worth is not None))
            self.assertIs(machine.is_right(), right)

    def test_trust_with_no_record_on_top(self):
        twice = Rules(LOOK, {(1, "plain"): (("set", "note"), ("note",), ("do", 1), ("trust",), ("out",))})
        machine = machine_of(twice, [XA])
        run_on(machine, 0, 5)
        self.assertIsNone(machine.end(0))
        self.assertIs(machine.is_right(), True)
        self.assertEqual(run_on(machine, 0), (1, ()))
        self.assertEqual([machine.end(0), machine.diary(0), machine.is_right()], ["faulted", [(0, XA), (1, 7)], False])
        # What it wrote stays.
        self.assertEqual(machine.stand(1), ("plain", "", None, 0))

    def test_do_twice_and_never(self):
        machine = machine_of(with_course(LOOK, (1, "plain"), (("do", 1), ("do", 1), ("out",))), [XA])
        run_on(machine, 0, 3)
        self.assertIs(machine.is_right(), True)
        run_on(machine, 0)
        self.assertEqual([machine.end(0), machine.is_right(), machine.at(0)], ["faulted", False, (1, ())])
        # What was left undone shows with the next step only.
        machine = machine_of(with_course(LOOK, (1, "plain"), OUT), [XA])
        run_on(machine, 0, 3)
        self.assertEqual([machine.at(0), machine.is_right()], [(2, ()), True])
        run_on(machine, 0)
        self.assertEqual([machine.end(0), machine.is_right()], ["faulted", False])

    def test_out_of_a_site_at_the_end_of_the_program(self):
        machine = machine_of(CAREFUL, [XA], [XA], program=LOOP[:2])
        machine.play([0] * 8 + [1] * 5)
        self.assertEqual([machine.end(0), machine.end(1), machine.at(0)], ["over", None, (2, ())])
        machine.move(1)
        self.assertEqual([machine.end(1), machine.diary(1), machine.is_right()], ["over", [(0, XA), (1, 7)], True])
        # What was left undone shows at once where the hand is over by it.
        machine = machine_of(with_course(LOOK, (1, "plain"), OUT), [XA], program=LOOP[:2])
        machine.play([0, 0])
        self.assertIs(machine.is_right(), True)
        machine.move(0)
        self.assertEqual([machine.end(0), machine.is_right()], ["over", False])

    def test_an_act_within_a_course_ends_a_hand(self):
        program = (("take",), ("look", "x"), ("take",), ("jump", 0))
        rules = Rules(("look", "take"), {(1, "plain"): (("word", 2, "a"), ("do", 1), ("set", "key"), ("on",)),
                                         (2, "plain"): (("do", 2), ("out",)),
                                         (2, "a"): (("word", 1, "plain"), ("do", 2), ("word", 2, "plain"), ("out",))})
        machine = machine_of(rules, [XA], [XA, 5], program=program)
        machine.play([0] * 6)
        self.assertEqual([machine.at(0), machine.stand(1)], [(2, ()), ("plain", "a", ("x", "a"), None)])
        machine.play([0, 0])
        self.assertEqual(machine.at(0), (2, rules.courses[(2, "a")][1:]))
        machine.move(0)
        # Its inputs ran out there: it is over, the rest is not done, what it wrote stays.
        self.assertEqual([machine.end(0), machine.at(0), machine.stand(1)],
                         ["over", (2, ()), ("plain", "a", ("x", "a"), None)])
        self.assertEqual([machine.diary(0), machine.is_right()], [[(0, XA), (1, 7)], True])
        machine.play([1] * 10)
        self.assertEqual([machine.diary(1)[2], machine.stand(1)], [(2, 5), ("plain", "plain", ("x", "a"), None)])
        machine.play([1])
        self.assertEqual([machine.at(1), machine.is_right()], [(3, ()), True])

    def test_a_fault_within_a_course(self):
        machine = machine_of(Rules.plain(ADD_TELL), [3, XA], program=(("take",), ("take",), ("add",), ("tell",)), site=2)
        machine.play([0, 0, 0])
        self.assertEqual(machine.at(0), (2, (("do", 1), ("on",))))
        machine.move(0)
        self.assertEqual([machine.end(0), machine.at(0), machine.is_right()], ["faulted", (2, ()), True])

    def test_on_and_the_second_cell(self):
        machine = machine_of(Rules.plain(LOOK_ADD), [1, XA], program=SUMS, site=2)
        machine.play([0, 0, 0])
        self.assertEqual(machine.at(0), (2, (("do", 1), ("on",))))
        self.assertEqual(run_on(machine, 0), (2, (("on",),)))
        self.assertEqual(run_on(machine, 0), (3, ()))
        self.assertEqual(machine.diary(0)[-1], (2, 7))
        self.assertEqual(run_on(machine, 0), (3, (("do", 2), ("out",))))
        self.assertEqual(run_on(machine, 0), (3, (("out",),)))
        self.assertEqual(machine.diary(0)[-1], (3, 8))
        self.assertEqual(run_on(machine, 0), (4, ()))
        machine.play([0])
        self.assertEqual(machine.told(0), [8])

    def test_a_jump_to_the_second_cell(self):
        program = (("take",), ("take",), ("jump", 4), ("look", "x"), ("add",), ("tell",))
        rules = Rules.plain(LOOK_ADD)
        closed = Rules(LOOK_ADD, rules.courses, closed=True)
        machine = machine_of(rules, [2, 3], program=program, site=3)
        machine.play([0, 0, 0])
        self.assertEqual(machine.at(0), (4, ()))
        self.assertEqual(run_on(machine, 0), (4, (("do", 2), ("out",))))
        self.assertEqual(run_on(machine, 0, 2), (5, ()))
        self.assertEqual(machine.diary(0)[-1], (4, 5))
        # Closed rules have no site where a jump leads to the second cell.
        with self.assertRaises(BadPlacement):
            machine_of(closed, [2, 3], program=program, site=3)
        # Nor does a hand come to the second cell of closed rules by the step ahead, which is the first cell.
        machine = machine_of(Rules(LOOK_ADD, {(1, "plain"): (("do", 1), ("on",)), (2, "plain"): (("out",),)},
                                   closed=True), [1, XA], program=SUMS, site=2)
        machine.play([0] * 6)
        self.assertEqual(machine.at(0), (3, (("out",),)))

    def test_a_cell_that_is_skipped(self):
        """Behind "out" of the first course the hand is behind the site."""
        program = (("take",), ("take",), ("add",), ("tell",), ("tell",))
        machine = machine_of(fused(closed=True), [1, 2], program=program, site=2)
        machine.play([0] * 5)
        self.assertEqual([machine.diary(0)[2:], machine.at(0)[0]], [[(2, 3), (3, 3)], 2])
        machine.play([0] * 3)
        self.assertEqual([machine.at(0), machine.told(0)], [(4, ()), [3]])
        machine.move(0)
        self.assertEqual(machine.end(0), "faulted")
        self.assertEqual(machine.stand(2), ("both", "skip", None, None))

    def test_a_move_of_the_second_cell_ahead_of_the_first(self):
        rules = Rules(ADD_TELL, {(1, "plain"): (("do", 2), ("do", 1), ("out",)), (2, "plain"): OUT}, closed=True)
        program = (("take",), ("take",), ("take",), ("add",), ("tell",))
        machine = machine_of(rules, [1, 2, 3], program=program, site=3)
        machine.play([0] * 5)
        self.assertEqual([machine.diary(0)[3:], machine.told(0), machine.at(0)],
                         [[(4, 3)], [3], (3, (("do", 1), ("out",)))])
        self.assertIs(machine.is_right(), False)
        machine.play([0, 0])
        self.assertEqual([machine.diary(0)[4:], machine.end(0)], [[(3, 3)], "over"])

    def test_several_sites_and_hands_from_1_to_20(self):
        program = (("take",), ("look", "x"), ("take",), ("look", "x"), ("add",), ("tell",), ("jump", 0))
        for many in (1, 2, 5, 20):
            inputs = [[XA, AX, AX, XA] if hand % 2 else [AX, AX] for hand in range(many)]
            machine = Machine(program, [(3, Rules.plain(LOOK_ADD)), (1, CAREFUL)], inputs)
            while any(machine.end(hand) is None for hand in range(many)):
                machine.play([hand for hand in range(many) if machine.end(hand) is None])
                self.assertIs(machine.is_right(), True)
            for hand in range(many):
                self.assertEqual(machine.told(hand), [15, 15] if hand % 2 else [16])
                self.assertEqual((machine.diary(hand), machine.end(hand)), alone(program, inputs[hand], 100))
            self.assertEqual(machine.stand(1)[0], "sure")

    def test_no_placements(self):
        machine = Machine(list(LOOP), [], [[XA], []])
        machine.play((0, 0, 1, 0, 0, 0))
        self.assertEqual([machine.end(0), machine.end(1), machine.told(0)], ["over", "over", [7]])
        self.assertIs(machine.is_right(), True)

    def test_against_a_slow_machine(self):
        compared = 0
        for number in range(500):
            chance = random.Random(number)
            program = some_program(chance)
            placements = some_placements(chance, program, sites_of)
            many = chance.randint(1, 4)
            shapes = chance.sample(SHAPES, 3)
            inputs = [some_values(chance, shapes, 10) for _ in range(many)]
            machine, slow = Machine(program, placements, inputs), SlowMachine(program, placements, inputs)
            for _ in range(chance.randint(5, 80)):
                alive = [hand for hand in range(many) if machine.end(hand) is None]
                if not alive:
                    break
                hand = chance.choice(alive)
                machine.move(hand)
                slow.move(hand)
                self.assertEqual(machine.diary(hand), slow.hands[hand]["diary"], number)
                self.assertEqual(machine.end(hand), slow.hands[hand]["end"])
                self.assertEqual(machine.at(hand), slow.at(hand))
                for site, _ in placements:
                    self.assertEqual(machine.stand(site), tuple(slow.stands[site]))
                compared += len(placements)
            right = all(self.is_right(program, values, slow.hands[hand]) for hand, values in enumerate(inputs))
            self.assertIs(machine.is_right(), right)
        self.assertGreater(compared, 3000)

    def is_right(self, program, values, hand):
        """Whether a hand of a slow machine did what it does alone."""
        diary, end = alone(program, values, 200)
        if hand["end"] is None:
            return diary[:len(hand["diary"])] == hand["diary"]
        return (diary, end) == (hand["diary"], hand["end"])


class RightTest(unittest.TestCase):
    WEAVING = [0] * 4 + [1] * 3 + [0] + [1, 1, 1]

    def test_a_hasty_rule_and_two_shapes(self):
        """Hand 0 writes its note, hand 1 both its halves; then hand 0 writes its key, which goes with hand 1's note."""
        machine = machine_of(HASTY, [XA], [AX], [XA])
        machine.play([0, 0, 1, 1, 0, 1, 0, 1, 1, 0, 0, 2, 2, 2, 2])
        self.assertEqual(machine.stand(1), ("sure", "", ("x", "a"), 1))
        self.assertIs(machine.is_right(), True)
        machine.move(2)
        self.assertEqual([machine.diary(2), machine.is_right()], [[(0, XA), (1, 5)], False])
        machine.undo(1)
        self.assertIs(machine.is_right(), True)

    def test_rules_that_go_wrong_only_for_more_hands(self):
        for many in (1, 2, 3, 4):
            for rules, kinds in ((HASTY, 1), (CAREFUL, 2), (Rules.plain(LOOK), 2)):
                inputs = [[(XA, AX)[hand % kinds]] * 3 for hand in range(many)]
                machine = machine_of(rules, *inputs)
                chance = random.Random(many)
                while len(machine) < 200:
                    alive = [hand for hand in range(many) if machine.end(hand) is None]
                    if not alive:
                        break
                    machine.move(chance.choice(alive))
                    self.assertIs(machine.is_right(), True)

    def test_where_the_places_are_the_same_another_shape_does_no_harm(self):
        first, second = (("a", "x"), (1, 2)), (("b", "x"), (3, 4))
        machine = machine_of(Rules(LOOK, {(1, "plain"): (("do", 1), ("set", "note"), ("word", 1, "a"), ("out",)),
                                          (1, "a"): (("note",), ("trust",), ("out",))}), [first], [second], [XA])
        machine.play([0] * 6 + [1] * 5)
        self.assertEqual([machine.diary(1), machine.is_right()], [[(0, second), (1, 4)], True])
        machine.play([2] * 4)
        self.assertEqual([machine.diary(2), machine.is_right()], [[(0, XA), (1, 5)], False])


class MovesTest(unittest.TestCase):
    def test_hands_that_cannot_move(self):
        machine = machine_of(CAREFUL, [XA], [3])
        for call in (machine.move, machine.diary, machine.told, machine.end, machine.at):
            for value in [*odd_values(), 2, -1, HUGE, "0", (0,)]:
                with self.assertRaises(BadHand) as caught:
                    call(value)
                self.assertIs(caught.exception.value, value)
        machine.play([1, 1])
        self.assertEqual(machine.end(1), "faulted")
        with self.assertRaises(Ended) as caught:
            machine.move(1)
        self.assertEqual([caught.exception.hand, machine.moves()], [1, [1, 1]])

    def test_play_all_or_nothing(self):
        machine = machine_of(CAREFUL, [XA], [3])
        machine.play([0] * 5)
        before = state_of(machine, 2, [1])
        for value in [*odd_values(), 2, -1, HUGE]:
            for ahead in ([], [0, 1, 0]):
                with self.assertRaises(BadEvent) as caught:
                    machine.play([*ahead, value, 0])
                self.assertEqual(caught.exception.number, len(ahead))
                self.assertEqual(state_of(machine, 2, [1]), before)
        # Hand 1 ends by its second move, and cannot do a third one.
        with self.assertRaises(BadEvent) as caught:
            machine.play([0, 1, 0, 1, 1, 0])
        self.assertEqual(caught.exception.number, 4)
        self.assertEqual(state_of(machine, 2, [1]), before)
        self.assertIsNone(machine.play([]))
        self.assertIsNone(machine.move(0))

    def test_stand(self):
        machine = Machine(SUMS, [(2, Rules.plain(LOOK_ADD))], [[1]])
        for value in [*odd_values(), 0, 1, 3, -1, HUGE, True, "2", (2,)]:
            with self.assertRaises(NoSite) as caught:
                machine.stand(value)
            self.assertIs(caught.exception.value, value)
        self.assertEqual(machine.stand(site=2), ("plain", "plain", None, None))

    def test_undo(self):
        for number in range(150):
            chance = random.Random(number)
            program = some_program(chance)
            placements = some_placements(chance, program, sites_of)
            inputs = [some_values(chance, SHAPES[:3], 8) for _ in range(2)]
            machine = Machine(program, placements, inputs)
            sites = [site for site, _ in placements]
            states = [state_of(machine, 2, sites)]
            for _ in range(40):
                alive = [hand for hand in range(2) if machine.end(hand) is None]
                if alive:
                    machine.move(chance.choice(alive))
                    states.append(state_of(machine, 2, sites))
            while len(states) > 1:
                many = chance.randint(0, min(5, len(states) - 1))
                self.assertIsNone(machine.undo(many))
                del states[len(states) - many:]
                self.assertEqual(state_of(machine, 2, sites), states[-1])
            self.assertEqual(machine, Machine(program, placements, inputs))

    def test_undo_too_far(self):
        machine = machine_of(CAREFUL, [XA])
        machine.play([0, 0, 0])
        for value in [*odd_values(), 4, -1, HUGE, "1", (1,)]:
            with self.assertRaises(TooFar) as caught:
                machine.undo(value)
            self.assertEqual([caught.exception.many, len(machine)], [3, 3])
        machine.undo(many=3)
        self.assertEqual([machine.moves(), machine.at(0)], [[], (0, ())])
        with self.assertRaises(TooFar) as caught:
            machine.undo(1)
        self.assertEqual(caught.exception.many, 0)

    def test_fork(self):
        machine = machine_of(HASTY, [XA], [AX])
        machine.play([0, 0, 0, 1])
        other = machine.fork()
        self.assertIsInstance(other, Machine)
        self.assertEqual(other, machine)
        self.assertEqual(state_of(other, 2, [1]), state_of(machine, 2, [1]))
        kept = state_of(machine, 2, [1])
        other.play([0, 0, 0, 0, 1, 1])
        self.assertEqual(state_of(machine, 2, [1]), kept)
        self.assertNotEqual(other, machine)
        other.undo(10)
        self.assertEqual(state_of(machine, 2, [1]), kept)
        ahead = machine.fork()
        machine.undo(4)
        self.assertEqual(machine, other)
        self.assertEqual(state_of(ahead, 2, [1]), kept)

    def test_equal(self):
        program = (("take",), ("look", "x"), ("take",), ("look", "x"), ("tell",))
        placements = [(1, CAREFUL), (3, HASTY)]
        machine = Machine(program, placements, [[XA], [AX, 1]])
        same = [Machine(program, placements[::-1], [[XA], [AX, 1]]),
                Machine(list(program), [(1, Rules.careful()), (3, Rules.hasty())], ((XA,), (AX, 1)))]
        for other in same:
            self.assertTrue(machine == other)
            self.assertFalse(machine != other)
        for other in (Machine((*program, ("tell",)), placements, [[XA], [AX, 1]]),
                      Machine(program, placements[:1], [[XA], [AX, 1]]),
                      Machine(program, [(1, HASTY), (3, HASTY)], [[XA], [AX, 1]]),
                      Machine(program, [(1, CAREFUL), (3, CAREFUL)], [[XA], [AX, 1]]),
                      Machine(program, placements, [[XA], [AX]]), Machine(program, placements, [[AX, 1], [XA]]),
                      *odd_values()):
            self.assertFalse(machine == other)
            self.assertTrue(machine != other)
        first, second = same
        first.play([0, 1])
        second.play([1, 0])
        # They stand alike, but came there otherwise.
        self.assertFalse(first == second)
        second.undo(2)
        second.play([0, 1])
        self.assertTrue(first == second)

    def test_a_thousand_moves_of_twenty_hands(self):
        inputs = [[XA if (hand + at) % 3 else AX for at in range(60)] for hand in range(20)]
        machine = machine_of(CAREFUL, *inputs)
        for at in range(1000):
            machine.move(at * 7 % 20)
        self.assertIs(machine.is_right(), True)
        again = machine.fork()
        machine.undo(1000)
        self.assertEqual(len(machine), 0)
        machine.play(again.moves())
        self.assertEqual(machine, again)
        self.assertEqual(state_of(machine, 20, [1]), state_of(again, 20, [1]))


class MadeTest(unittest.TestCase):
    def refused(self, error, attribute, expected, *args):
        with self.assertRaises(error) as caught:
            Machine(*args)
        if attribute == "value":
            self.assertIs(caught.exception.value, expected)
        else:
            self.assertEqual(getattr(caught.exception, attribute), expected)
            self.assertIs(type(getattr(caught.exception, attribute)), int)

    def test_no_program(self):
        for value in [*odd_values(), (), [["take"]]]:
            self.refused(BadProgram, "value", value, value, [(1, CAREFUL)], [[XA]])
            # It is named ahead of the others.
            self.refused(BadProgram, "value", value, value, [None], None)

    def test_placements(self):
        good = (1, CAREFUL)
        closed = Rules(LOOK_ADD, Rules.plain(LOOK_ADD).courses, closed=True)
        wrong = [*odd_values(), [1, CAREFUL], (1,), (1, CAREFUL, 0), (0, CAREFUL), (2, CAREFUL), (True, CAREFUL),
                 (-3, CAREFUL), (4, CAREFUL), (HUGE, CAREFUL), (None, CAREFUL), ("1", CAREFUL), ((1,), CAREFUL),
                 (1, Rules.plain(LOOK_ADD)), (1, Rules.plain(ADD_TELL)), (1, closed), (1, None), (1, Rules), (1, LOOK),
                 (CAREFUL, 1), (1, CAREFUL.courses)]
        for value in wrong:
            self.refused(BadPlacement, "number", 0, LOOP, [value], [[XA]])
            self.refused(BadPlacement, "number", 1, LOOP, [good, value, value], [[XA]])
            self.refused(BadPlacement, "number", 0, LOOP, [value, good], None)
        self.refused(BadPlacement, "number", 1, LOOP, [good, good], [[XA]])
        Machine(LOOP, (good,), [[XA]])

    def test_places_in_common(self):
        program = (("add",), ("add",), ("tell",), ("take",), ("add",))
        adds, sums = Rules.plain(("add", "add")), Rules.plain(ADD_TELL)
        Machine(program, [(0, adds), (3, Rules.plain(("take", "add")))], [[]])
        for placements in ([(0, adds), (1, sums)], [(1, sums), (0, adds)],
                           [(1, sums), (3, Rules.plain(("take", "add"))), (0, adds)]):
            self.refused(BadPlacement, "number", len(placements) - 1, program, placements, [[]])

    def test_closed_rules_where_a_jump_leads(self):
        closed = Rules(LOOK_ADD, Rules.plain(LOOK_ADD).courses, closed=True)
        self.refused(BadPlacement, "number", 0, (*SUMS[:5], ("branch", 3)), [(2, closed)], [[]])
        Machine((*SUMS[:5], ("branch", 2)), [(2, closed)], [[]])
        Machine((*SUMS[:5], ("branch", 3)), [(2, Rules.plain(LOOK_ADD))], [[]])

    def test_inputs(self):
        for value in [*odd_values(), [], (), [[]] * 21, ([],) * 21, {0: []}, "inputs", None, 3]:
            # One hand without inputs is no wrong value.
            if value not in ([()], ((),)):
                self.refused(BadInputs, "number", 0, LOOP, [(1, CAREFUL)], value)
        for value in [*odd_values(), 3, "x", None, {0: 1}, [True], [[1]], [(("x",), [1])], (None,), [XA, B, "a"]]:
            if value not in ((), []) and not (isinstance(value, (list, tuple)) and all(type(x) is int for x in value)):
                self.refused(BadInputs, "number", 0, LOOP, [], [value])
                self.refused(BadInputs, "number", 2, LOOP, [], ([XA], (1, B), value, value))
        for many in (1, 20):
            Machine(LOOP, [(1, CAREFUL)], [[XA]] * many)
            Machine(LOOP, [(1, CAREFUL)], ((),) * many)

    def test_by_name_and_what_was_handed_in(self):
        program, placements, inputs = list(LOOP), [(1, CAREFUL)], [[XA, AX]]
        machine = Machine(program=program, placements=placements, inputs=inputs)
        same = Machine(LOOP, [(1, CAREFUL)], [[XA, AX]])
        program.clear()
        placements.clear()
        inputs[0].clear()
        inputs.append(None)
        self.assertEqual(machine, same)
        machine.play(hands=[0] * 5)
        machine.move(hand=0)
        self.assertEqual([machine.diary(hand=0), machine.told(hand=0), machine.end(hand=0), machine.at(hand=0)[0]],
                         [[(0, XA), (1, 7)], [], None, 1])
        for call in (machine.moves, lambda: machine.diary(0), lambda: machine.told(0)):
            kept = call()
            self.assertIs(type(kept), list)
            more = call()
            more.append(3)
            self.assertEqual(call(), kept)

    def test_methods_stand_in_the_class(self):
        for name in ("move", "play", "diary", "told", "end", "at", "stand", "moves", "__len__", "undo", "fork",
                     "is_right", "__eq__"):
            self.assertIn(name, Machine.__dict__)

    def test_two_cells_of_each_kind(self):
        machine = machine_of(two_cells(), [1, XA], [1, AX], program=SUMS, site=2)
        chance = random.Random(1)
        while True:
            alive = [hand for hand in range(2) if machine.end(hand) is None]
            if not alive:
                break
            machine.move(chance.choice(alive))
            self.assertIs(machine.is_right(), True)
        self.assertEqual([machine.told(0), machine.told(1)], [[8], [9]])


if __name__ == "__main__":
    unittest.main()
