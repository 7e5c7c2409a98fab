"""The document's words on machines, done as plainly as can be, and programs to hold the package against it."""

import random

from tests.making import made
from tests.samples import fused, given_up, ladder, queue, reread, two_cells
from warmsteps.rules import Rules

SHAPES = [("x",), ("y", "x"), ("x", "y", "z"), ("z", "w", "x", "y"), ("w",), ("y", "z", "x")]


class Ends(Exception):
    """A hand is over or faulted by what it is to do."""


class SlowMachine:
    """A machine [12] that is written down move by move."""

    def __init__(self, program, placements, inputs):
        self.program = program
        self.rules = dict(placements)
        self.stands = {site: ["plain", "plain" if len(rules.pattern) == 2 else "", None, None]
                       for site, rules in placements}
        self.hands = [{"place": 0, "stack": [], "inputs": list(values), "diary": [], "end": None, "site": None,
                       "rest": None, "own": None, "read": None} for values in inputs]
        self.windows = {site: [] for site, _ in placements}

    def move(self, number):
        """A move of a hand that has not ended."""
        hand = self.hands[number]
        try:
            if hand["site"] is not None:
                self.windows[hand["site"]].append((number,))
                self.move_in_site(hand)
            elif not self.comes(number, hand):
                self.step(hand, hand["place"], goes=True)
        except Ends as end:
            hand["end"] = str(end)
            hand["rest"] = None
        if hand["place"] == len(self.program):
            hand["end"] = "over"

    def comes(self, number, hand):
        """Whether a hand comes to a site."""
        for site, rules in self.rules.items():
            cell = hand["place"] - site + 1
            if cell == 1 or (cell == 2 and len(rules.pattern) == 2 and not rules.closed):
                hand["own"] = None
                if cell == 1 and rules.pattern[0] == "look":
                    self.looked(hand, self.program[site][1])
                    hand["own"] = hand["stack"][-1][0]
                hand.update(site=site, read=None, rest=rules.courses[(cell, self.stands[site][cell - 1])])
                self.windows[site].append((number, cell, hand["own"]))
                return True
        return False

    def looked(self, hand, name):
        """The value that a look would push."""
        if not hand["stack"] or not isinstance(hand["stack"][-1], tuple) or name not in hand["stack"][-1][0]:
            raise Ends("faulted")
        shape, values = hand["stack"][-1]
        return values[shape.index(name)]

    def pops(self, hand, many):
        """The integers on top of the stack."""
        top = hand["stack"][len(hand["stack"]) - many:] if len(hand["stack"]) >= many else [()]
        if any(isinstance(value, tuple) for value in top):
            raise Ends("faulted")
        del hand["stack"][len(hand["stack"]) - many:]
        return top

    def step(self, hand, place, *, goes):
        """The plain step at a place."""
        step, behind, worth = self.program[place], place + 1, None
        if step[0] == "take":
            if not hand["inputs"]:
                raise Ends("over")
            worth = hand["inputs"].pop(0)
            hand["stack"].append(worth)
        elif step[0] == "look":
            worth = self.looked(hand, step[1])
            hand["stack"][-1] = worth
        elif step[0] == "add":
            worth = sum(self.pops(hand, 2))
            hand["stack"].append(worth)
        elif step[0] == "tell":
            worth = self.pops(hand, 1)[0]
        elif step[0] == "jump" or self.pops(hand, 1) == [0]:
            behind = step[1]
        hand["diary"].append((place, worth))
        if goes:
            hand["place"] = behind

    def move_in_site(self, hand):
        """The next move of a course, or the reading of the second cell's word."""
        site = hand["site"]
        stand, rules = self.stands[site], self.rules[site]
        if hand["rest"] is None:
            hand["rest"] = rules.courses[(2, stand[1])]
            return
        move, rest = hand["rest"][0], hand["rest"][1:]
        hand["rest"] = rest
        if move[0] == "key" and stand[2] != hand["own"]:
            hand["rest"] = move[1]
        elif move[0] in ("is", "claim") and stand[move[1] - 1] != move[2]:
            hand["rest"] = move[-1]
        elif move[0] in ("claim", "word"):
            stand[move[1] - 1] = move[3] if move[0] == "claim" else move[2]
        elif move[0] == "note":
            hand["read"] = stand[3]
        elif move == ("set", "key"):
            stand[2] = hand["own"]
        elif move == ("set", "note"):
            stand[3] = hand["own"].index(self.program[site][1])
        elif move[0] == "wipe":
            stand[2 if move[1] == "key" else 3] = None
        elif move[0] == "do":
            self.step(hand, site + move[1] - 1, goes=False)
        elif move[0] == "trust":
            self.trust(hand, site)
        elif move[0] in ("on", "out"):
            hand["place"] = site + 1 if move[0] == "on" else site + len(rules.pattern)
            hand["rest"] = None
            if move[0] == "out":
                hand["site"] = None

    def trust(self, hand, site):
        """The look of the first cell, at the place that was read."""
        top = hand["stack"][-1] if hand["stack"] else None
        if not isinstance(top, tuple) or hand["read"] is None or hand["read"] >= len(top[1]):
            raise Ends("faulted")
        hand["stack"][-1] = top[1][hand["read"]]
        hand["diary"].append((site, hand["stack"][-1]))

    def at(self, number):
        """Where a hand is, and the rest of its course."""
        return self.hands[number]["place"], self.hands[number]["rest"] or ()

    def window(self, site):
        """What came and moved at a site, shapes by numbers."""
        met, events = [], []
        for event in self.windows[site]:
            if len(event) == 3:
                if event[2] is not None and event[2] not in met:
                    met.append(event[2])
                event = (event[0], event[1], 0 if event[2] is None else met.index(event[2]) + 1)
            events.append(event)
        return events


def alone(program, inputs, most):
    """The diary and the end of a hand alone on the plain machine, behind at most so many steps [3], [4]."""
    machine = SlowMachine(program, [], [inputs])
    hand = machine.hands[0]
    while hand["end"] is None and len(hand["diary"]) < most:
        machine.move(0)
    return hand["diary"], hand["end"]


def some_program(chance):
    """A program that often comes to something: it takes records and integers, and has sites."""
    steps = []
    for _ in range(chance.randint(1, 9)):
        steps.extend(chance.choice([
            [("take",)], [("take",), ("look", "x")], [("take",), ("look", "x"), ("take",), ("look", "x"), ("add",)],
            [("tell",)], [("add",)], [("take",), ("look", "x"), ("tell",)], [("take",), ("look", "x"), ("take",)],
            [("take",), ("look", "x"), ("branch", 0)], [("look", "y")], [("jump", 0)], [("take",), ("take",), ("add",)],
            [("take",), ("look", "x"), ("take",), ("look", "x"), ("take",), ("look", "x"), ("add",), ("add",)]]))
    steps = steps[:39] + [("jump", 0)] * chance.randint(0, 1)
    many = len(steps)
    return tuple((step[0], chance.choice([0, chance.randint(0, many)])) if step[0] in ("jump", "branch") else step for step in steps)


def loop_of(chance, pattern):
    """A program that comes to a site of a pattern again and again, with records as inputs, and perhaps to two."""
    steps = []
    for _ in range(chance.choice([1, 1, 2])):
        steps.extend([("take",), ("look", "x")] * (2 if pattern[0] == "look" else 3))
        if pattern[0] == "look":
            steps.append(("take",))
        steps.extend(("look", chance.choice("xxxy")) if word == "look" else (word,) for word in pattern)
        steps.extend(chance.choice([[], [("tell",)], [("take",)]]))
    steps = steps + [("jump", 0)]
    if len(pattern) == 2 and chance.random() < 0.5:
        places = [at + 1 for at in range(len(steps) - 1) if (steps[at][0], steps[at + 1][0]) == pattern]
        steps[-1:] = [("take",), ("look", "x"), ("take",), ("look", "x"), ("branch", 0), ("take",), ("look", "x"),
                      ("jump", places[0])]
    return tuple(steps)


def some_values(chance, shapes, many, *, records=None):
    """Inputs: integers and records of these shapes; records is how many of them are records, 1 for all."""
    found = []
    records = chance.choice([0, 0.5, 0.9, 1, 1]) if records is None else records
    for _ in range(chance.randint(0, many)):
        shape = chance.choice(shapes)
        record = (shape, tuple(chance.randint(-3, 9) for _ in shape))
        found.append(record if chance.random() < records else chance.randint(0, 2))
    return found


def some_rules(chance):
    """Rules of any kind, right or wrong."""
    known = [Rules.careful(), Rules.hasty(), given_up(), queue(), reread(), two_cells(), two_cells(closed=True),
             fused(closed=True), fused(closed=False), ladder(2), made(chance.randint(0, 5000), changes=5)]
    known += [Rules.plain((first, second)) for first in ("look", "add", "take", "tell")
              for second in ("add", "tell", "take")]
    return chance.choice(known)


def some_placements(chance, program, sites_of, rules=None):
    """Placements of rules in a program, at sites that have no place in common; rules of one kind, or of any."""
    placements, taken = [], set()
    for _ in range(8):
        chosen = rules if rules is not None else some_rules(chance)
        sites = sites_of(program, chosen)
        if sites:
            site = chance.choice(sites)
            places = set(range(site, site + len(chosen.pattern)))
            if not places & taken:
                placements.append((site, chosen))
                taken |= places
    chance.shuffle(placements)
    return placements
