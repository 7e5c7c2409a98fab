"""Stage 11: wrong weavings as programs with inputs, and what machines do at a site as weavings."""

from warmsteps.errors import NotWrong
from warmsteps.forms import looks, need_shapes
from warmsteps.sites import Site
from warmsteps.verdicts import is_weaving

NAME = "x"
# In each shape the name has another place, so that a note of another shape is another value.
SHAPES = (("x", "y", "z"), ("y", "x", "z"), ("y", "z", "x"))
VALUES = (2, 3, 5)
# So many integers are enough for two cells of any pattern.
NUMBERS = (1, 1, 1)
TO_FIRST = 1
TO_SECOND = 0


class Stage:
    """A program with a site of the rules to which hands come again and again, at the cell that their inputs tell."""

    def __init__(self, rules):
        self._pattern = rules.pattern
        # A hand can be led to the second cell of open rules alone.
        self._leads = len(rules.pattern) == 2 and not rules.closed
        ahead = [("take",) for _ in self._stack(1, 1)]
        if self._leads:
            ahead = [("take",), ("branch", len(ahead) + len(rules.pattern) + 3), *ahead]
        self.site = len(ahead)
        cells = [("look", NAME) if word == "look" else (word,) for word in rules.pattern]
        behind = [("take",) for _ in NUMBERS] + [("jump", self.site + 1)] if self._leads else []
        self.program = (*ahead, *cells, ("jump", 0), *behind)

    def _stack(self, cell, shape):
        """What a hand has on its stack when it comes."""
        record = [(SHAPES[shape - 1], VALUES)] if cell == 1 and looks(self._pattern) else []
        return [*NUMBERS, *record]

    def inputs(self, cell, shape):
        """What a hand takes to come to a cell with a shape, and in the cells."""
        found = self._stack(cell, shape) + [TO_FIRST for word in self._pattern[cell - 1:] if word == "take"]
        return [TO_FIRST if cell == 1 else TO_SECOND, *found] if self._leads else found

    def moves_to(self, cell):
        """How many moves a hand outside makes from the first step of the program until it has come to a cell."""
        ahead = len(self._stack(cell, 1)) + 1
        return ahead + (0 if not self._leads else 2 if cell == 1 else 3)


def shown(rules, shapes, weaving):
    """A tuple (program, site, inputs, hands) by which the last move of the weaving makes a machine wrong."""
    need_shapes(shapes)
    if not is_weaving(rules, shapes, weaving):
        raise NotWrong(weaving)
    stage = Stage(rules)
    numbers = {}
    inputs = []
    hands = []
    for event in weaving:
        if event[0] not in numbers:
            numbers[event[0]] = len(inputs)
            inputs.append([])
        hand = numbers[event[0]]
        if len(event) == 1:
            hands.append(hand)
        else:
            # A hand that comes again has jumped back to the first step ahead of it.
            again = 1 if inputs[hand] else 0
            inputs[hand].extend(stage.inputs(event[1], event[2]))
            hands.extend([hand for _ in range(again + stage.moves_to(event[1]))])
    return stage.program, stage.site, with_more(inputs), with_last(rules, shapes, weaving, hands)


def with_more(inputs):
    """Inputs with some more, so that a hand alone would not be over where one goes wrong."""
    return [[*values, *NUMBERS] for values in inputs]


def with_last(rules, shapes, weaving, hands):
    """The moves of hands, with one more where the weaving ends with a hand that goes out and owes a step.

    That it did not do it shows with the step behind the site.
    """
    site = Site(rules, shapes)
    site.play(weaving)
    rest = site.hands[site.wrong][1]
    return [*hands, hands[-1]] if rest[0] == ("out",) else hands


def window_of(machine, site):
    """The list of events at a site of a machine, shapes numbered from 1 as they first came there."""
    numbers = {}
    events = []
    for event in machine.happened(site):
        if len(event) == 1:
            events.append(event)
        else:
            hand, cell, own = event
            if own is not None and own not in numbers:
                numbers[own] = len(numbers) + 1
            events.append((hand, cell, 0 if own is None else numbers[own]))
    return events
