"""Shapes exchanged for one another: what differs by this alone need be searched once."""

from warmsteps.forms import looks
from warmsteps.steps import KEY, NOTE

# By the number of shapes: the turns, each a tuple from shapes to shapes; the first one changes nothing.
TURNS = {
    0: ((0,),),
    1: ((0, 1),),
    2: ((0, 1, 2), (0, 2, 1)),
    3: ((0, 1, 2, 3), (0, 1, 3, 2), (0, 2, 1, 3), (0, 2, 3, 1), (0, 3, 1, 2), (0, 3, 2, 1)),
}
SAME = 0


def followed(turn, other):
    """The turn that does the other one behind this one."""
    return tuple([other[shape] for shape in turn])


def inverse(turn):
    """The turn that takes this one back."""
    return tuple([turn.index(shape) for shape in range(len(turn))])


class Turns:
    """The turns of the shapes of a net, by numbers, SAME for the one that changes nothing."""

    def __init__(self, net):
        self._net = net
        self.every = TURNS[net.for_shapes if looks(net.for_rules.pattern) else 0]
        self._first = {}
        self._numbers = [{} for _ in self.every]
        self._sets = [{} for _ in self.every]

    def first(self, one):
        """The tuple of a turn, and what one standing becomes by it: the same for all that differ by a turn alone."""
        if one not in self._first:
            standing = self._net.standings.told(one)
            met = []
            for shape in (standing[KEY], standing[NOTE]):
                if shape and shape not in met:
                    met.append(shape)
            met = met + [shape for shape in self.every[SAME] if shape and shape not in met]
            number = self.every.index(inverse((0, *met)))
            self._first[one] = (number, self.turned_one(number, one))
        return self._first[one]

    def turned_one(self, number, one):
        """One standing with its shapes turned."""
        if number == SAME:
            return one
        turn = self.every[number]
        first, second, key, note = self._net.standings.told(one)
        return self._net.standings.one((first, second, turn[key], turn[note]))

    def state(self, number, state):
        """The number of a state with its shapes turned."""
        known = self._numbers[number]
        if state not in known:
            known[state] = self._net.turned(state, self.every[number])
        return known[state]

    def states(self, number, states):
        """A set of states, as bits, with their shapes turned."""
        if number == SAME:
            return states
        known = self._sets[number]
        if states not in known:
            turned = 0
            rest = states
            while rest:
                low = rest & -rest
                turned = turned | (1 << self.state(number, low.bit_length() - 1))
                rest = rest ^ low
            known[states] = turned
        return known[states]

    def turned_few(self, number, few):
        """An ascending tuple of states with their shapes turned."""
        if number == SAME or not few:
            return few
        return tuple(sorted([self.state(number, state) for state in few]))

    def behind(self, number, other):
        """The number of the turn that does the second one behind the first one."""
        return self.every.index(followed(self.every[number], self.every[other]))

    def back(self, number):
        """The number of the turn that takes this one back."""
        return self.every.index(inverse(self.every[number]))
