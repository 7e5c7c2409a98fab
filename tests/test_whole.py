"""Points [1], [2], [13], [15] over the whole program: what each part tells of the others."""

import random
import unittest

from tests.large import right_look, right_two_cells
from tests.making import made
from tests.plain_machine import SHAPES, loop_of, some_placements, some_rules, some_values
from tests.samples import LOOK, LOOK_ADD, fused, given_up, queue, two_cells
from warmsteps.costs import is_dearer, never_dearer
from warmsteps.errors import NotRight
from warmsteps.least import fewest_hands, least_weaving
from warmsteps.machines import Machine
from warmsteps.meetings import meets
from warmsteps.programs import sites_of
from warmsteps.rules import Rules
from warmsteps.showing import shown, window_of
from warmsteps.sites import Site
from warmsteps.spare import spare
from warmsteps.steps import beginning
from warmsteps.texts import read_rules, rules_text
from warmsteps.verdicts import is_rows, is_weaving, verdict


def right_rules():
    """Rules that are right for three shapes."""
    known = [Rules.careful(), given_up(), queue(), two_cells(), two_cells(closed=True), fused(closed=True), right_look(),
             right_two_cells()]
    known += [Rules.plain((first, second)) for first in ("look", "add", "take") for second in ("add", "tell", "take")]
    known += [made(number, changes=5) for number in range(150)]
    return [rules for rules in known if verdict(rules, 3)[0] == "right"]


def renamed(rules):
    """The rules with other names for all words but "plain"."""
    names = {"plain": "plain"}
    for cell in range(1, len(rules.pattern) + 1):
        for word in rules.words(cell):
            names.setdefault(word, "w" + "zyxwvutsrq"[len(names)])

    def in_course(course):
        found = []
        for move in course:
            parts = list(move)
            if move[0] in ("is", "claim", "word"):
                parts[2] = names[move[2]]
            if move[0] == "claim":
                parts[3] = names[move[3]]
            if move[0] in ("key", "is", "claim"):
                parts[-1] = in_course(move[-1])
            found.append(tuple(parts))
        return tuple(found)

    courses = {(cell, names[word]): in_course(course) for (cell, word), course in rules.courses.items()}
    return Rules(rules.pattern, courses, closed=rules.closed)


class MachinesTest(unittest.TestCase):
    def some_machine(self, chance, rules, hands, *, kinds=3):
        """A machine of a program in which the rules have sites, and of inputs with so many shapes."""
        program = loop_of(chance, rules.pattern)
        placements = some_placements(chance, program, sites_of, rules)
        shapes = chance.sample([shape for shape in SHAPES if "x" in shape], kinds)
        records = chance.choice([0.97, 1, 1])
        inputs = [some_values(chance, shapes, 60, records=records) for _ in range(hands)]
        return Machine(program, placements, inputs), placements

    def play(self, chance, machine, hands, most):
        """Move hands in any sequence; tell after each move."""
        for _ in range(most):
            alive = [hand for hand in range(hands) if machine.end(hand) is None]
            if not alive:
                return
            # Some hands go on for long, others wait.
            for _ in range(chance.choice([1, 1, 2, 9])):
                hand = chance.choice(alive)
                if machine.end(hand) is None:
                    machine.move(hand)
                    yield hand

    def test_right_rules_keep_each_machine_right(self):
        moves = comings = 0
        for number, rules in enumerate(right_rules() * 4):
            chance = random.Random(number)
            hands = chance.randint(1, 5)
            machine, placements = self.some_machine(chance, rules, hands)
            for _ in self.play(chance, machine, hands, 60):
                moves += 1
                self.assertIs(machine.is_right(), True, number)
            for site, _ in placements:
                window = window_of(machine, site)
                comings += len([event for event in window if len(event) == 3])
        self.assertGreater(moves, 5000)
        self.assertGreater(comings, 1000)

    def test_rules_that_no_hand_alone_brings_to_go_wrong(self):
        comings = 0
        for number in range(400):
            chance = random.Random(number)
            rules = some_rules(chance)
            if fewest_hands(rules, 3) != 1:
                machine, placements = self.some_machine(chance, rules, 1)
                for _ in self.play(chance, machine, 1, 60):
                    self.assertIs(machine.is_right(), True, number)
                comings += sum(len(window_of(machine, site)) for site, _ in placements)
        self.assertGreater(comings, 1000)

    def test_rules_that_are_right_for_one_shape(self):
        comings = 0
        for number in range(150):
            chance = random.Random(number)
            rules = chance.choice([Rules.hasty(), made(chance.randint(0, 400), changes=4)])
            if verdict(rules, 1)[0] == "right":
                hands = chance.randint(1, 4)
                machine, placements = self.some_machine(chance, rules, hands, kinds=1)
                for _ in self.play(chance, machine, hands, 60):
                    self.assertIs(machine.is_right(), True, number)
                comings += sum(len(window_of(machine, site)) for site, _ in placements)
        self.assertGreater(comings, 500)

    def test_windows_are_weavings_and_sites_stand_as_behind_them(self):
        compared = wrong = 0
        for number in range(250):
            chance = random.Random(number)
            machine, placements = self.some_machine(chance, some_rules(chance), 3)
            for _ in self.play(chance, machine, 3, 50):
                if chance.random() < 0.1:
                    machine.undo(chance.randint(0, min(3, len(machine))))
            machine = machine.fork()
            for site, rules in placements:
                went_wrong = self.check_window(machine, site, rules)
                wrong += went_wrong
                compared += len(window_of(machine, site)) > 3 and not went_wrong
        self.assertGreater(compared, 150)
        self.assertGreater(wrong, 20)

    def check_window(self, machine, site, rules):
        """Hold a window against the site by itself; tell whether a hand went wrong there."""
        alone = Site(rules, 3)
        for event in window_of(machine, site):
            if alone.wrong is not None:
                return True
            alone.play([event])
        if alone.wrong is not None:
            return True
        standing, told = alone.standing, machine.stand(site)
        self.assertEqual(standing[:2], told[:2])
        self.assertEqual([half == 0 for half in standing[2:]], [half is None for half in told[2:]])
        for hand, state in alone.hands.items():
            if machine.end(hand) is None:
                self.assertEqual(machine.at(hand), (site + state[0] - 1, state[1]))
        return False

    def test_a_text_read_back_does_the_same(self):
        for number in range(60):
            chance = random.Random(number)
            rules = made(number, changes=6)
            machine, placements = self.some_machine(chance, rules, 2)
            for _ in self.play(chance, machine, 2, 40):
                pass
            again = [(site, read_rules(rules_text(other))) for site, other in placements]
            inputs = [list(values) for values in machine._inputs]
            other = Machine(machine._program, again, inputs)
            other.play(machine.moves())
            self.assertEqual(other, machine)
            for hand in range(2):
                self.assertEqual(other.diary(hand), machine.diary(hand))

    def test_what_is_wrong_is_shown(self):
        for number in range(80):
            rules = made(number, changes=6)
            weaving = least_weaving(rules, 3)
            if weaving is not None:
                program, site, inputs, hands = shown(rules, 3, weaving)
                machine = Machine(program, [(site, rules)], inputs)
                machine.play(hands)
                self.assertIs(machine.is_right(), False)
                machine.undo(1)
                self.assertIs(machine.is_right(), True)
                # The plain rules do right with the same program and inputs.
                plain = Rules(rules.pattern, Rules.plain(rules.pattern).courses, closed=rules.closed)
                machine = Machine(program, [(site, plain)], inputs)
                for hand in hands:
                    if machine.end(hand) is None:
                        machine.move(hand)
                self.assertIs(machine.is_right(), True)


class FactsTest(unittest.TestCase):
    def test_more_shapes_and_other_ones(self):
        for number in range(200):
            rules = made(number, changes=6)
            words = [verdict(rules, shapes) for shapes in (1, 2, 3)]
            for shapes, (word, told) in enumerate(words, 1):
                self.assertEqual([is_rows(rules, shapes, told), is_weaving(rules, shapes, told)],
                                 [word == "right", word == "wrong"])
                if word == "wrong":
                    for more in range(shapes, 4):
                        self.assertEqual(words[more - 1][0], "wrong")
                        self.assertIs(is_weaving(rules, more, told), True)
                    turn = {0: 0, 1: 3, 2: 1, 3: 2}
                    turned = [(event[0], event[1], turn[event[2]]) if len(event) == 3 else event for event in told]
                    self.assertIs(is_weaving(rules, 3, turned), True)
                    if rules.closed:
                        self.assertIs(is_weaving(Rules(rules.pattern, rules.courses), shapes, told), True)

    def test_rules_without_a_key(self):
        known = 0
        for number in range(400):
            rules = made(number, changes=6)
            if not any(rules[place][0] == "key" for place in rules.places()):
                if verdict(rules, 2)[0] == "right":
                    known += 1
                    self.assertEqual(verdict(rules, 3)[0], "right")
        self.assertGreater(known, 20)

    def test_other_names_of_words(self):
        for number in range(80):
            rules = made(number, changes=6)
            other = renamed(rules)
            for shapes in (1, 2):
                self.assertEqual(least_weaving(other, shapes), least_weaving(rules, shapes))
                self.assertEqual(verdict(other, shapes)[0], verdict(rules, shapes)[0])

    def test_the_same_whatever_was_asked_ahead(self):
        """One and the same rules are told of as rules made anew."""
        for number in range(40):
            rules = made(number, changes=4)
            for shapes in (3, 1, 2, 1):
                told = verdict(rules, shapes)
                self.assertEqual(told, verdict(made(number, changes=4), shapes))
                self.assertEqual(least_weaving(rules, shapes), least_weaving(made(number, changes=4), shapes))
                plain = Rules(rules.pattern, Rules.plain(rules.pattern).courses, closed=rules.closed)
                try:
                    dearer = never_dearer(rules, plain, shapes, number % 4, 9)
                except NotRight:
                    continue
                self.assertEqual(dearer, never_dearer(made(number, changes=4), plain, shapes, number % 4, 9))
                self.assertEqual(is_dearer(rules, plain, shapes, number % 4, 9, dearer[1]), dearer[0] == "no")
                if told[0] == "right":
                    self.assertEqual(spare(rules, shapes), spare(made(number, changes=4), shapes))
                    state = (1, rules.courses[(1, "plain")], 1 if rules.pattern[0] == "look" else 0, 0,
                             tuple(range(1, len(rules.pattern) + 1)))
                    self.assertEqual(meets(rules, shapes, [state] * 3), meets(made(number, changes=4), shapes, [state] * 3))

    def test_any_number_of_hands_where_no_claim_held(self):
        """Hands that come, and do moves of which no check is a claim that holds, can be as many as one likes."""
        for rules in (Rules.careful(), two_cells(), given_up(), Rules.plain(LOOK), Rules.plain(LOOK_ADD)):
            site = Site(rules, 2)
            site.come(0, 1, 1)
            while 0 in site.hands:
                state = site.hands[0]
                if state[1] and state[1][0][0] == "claim":
                    break
                self.assertEqual(meets(rules, 2, [state] * 4)[0], "yes")
                site.move(0)
            self.assertEqual(beginning(rules)[0], "plain")


if __name__ == "__main__":
    unittest.main()
