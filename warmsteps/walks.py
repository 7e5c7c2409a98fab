"""The least weavings of one or two hands, searched from the beginning, event by event."""

from warmsteps.nets import OUTSIDE
from warmsteps.steps import KEY, NOTE

ALONE = -1
# Where more is met, the search from what goes wrong is mostly the shorter one.
MOST_STEPS = 1500


class Walk:
    """Goes through all that one or two hands can do, as Python orders it, but not twice through what is alike.

    What stands the same but for the sequence of the hands goes wrong alike, so only the first such one is gone on
    from. Shapes that nobody has and that stand nowhere are alike, so hands come with the first one of these only.
    """

    def __init__(self, net, hands):
        self._net = net
        # The number of what is met as the first one in which a hand goes wrong by its next move.
        self._wrong = None
        start = (net.start, OUTSIDE, OUTSIDE if hands == 2 else ALONE)
        # Tuples (one standing, state of hand 0, state of hand 1), in the sequence in which they are met.
        self._met = [start]
        # For each of these: the number of the one ahead of it, and the hand that moved.
        self._ways = [(0, 0)]
        self._seen = {start: True}
        self._shapes = {}
        self._comings = {}

    def run(self, most):
        """Search; tell whether that ended within so many steps."""
        at = 0
        while at < len(self._met) and self._wrong is None:
            if at > most:
                return False
            one, first, second = self._met[at]
            moves = self._comings_at(one, second) if first == OUTSIDE else self._net.next_moves(one, first)
            for standing, target in moves:
                key = (standing, target, second) if target <= second else (standing, second, target)
                if key not in self._seen:
                    self._meet(key, (standing, target, second), (at, 0), target)
            if second not in (ALONE, first):
                moves = self._comings_at(one, first) if second == OUTSIDE else self._net.next_moves(one, second)
                for standing, target in moves:
                    key = (standing, target, first) if target <= first else (standing, first, target)
                    if key not in self._seen:
                        self._meet(key, (standing, first, target), (at, 1), target)
            at += 1
        return True

    def weaving(self):
        """The least wrong weaving, or None, when the search has ended."""
        if self._wrong is None:
            return None
        at = self._wrong
        hand = 0 if self._net.goes_wrong(self._met[at][1]) else 1
        events = [(hand,)]
        while at:
            ahead, hand = self._ways[at]
            came = self._met[ahead][hand + 1] == OUTSIDE
            events.append(self._net.coming(hand, self._met[at][hand + 1]) if came else (hand,))
            at = ahead
        return events[::-1]

    def _meet(self, key, met, way, target):
        self._seen[key] = True
        if self._wrong is None and self._net.wrong_ones >> target & 1:
            self._wrong = len(self._met)
        self._met.append(met)
        self._ways.append(way)

    def _comings_at(self, one, other):
        """How a hand can come, if the other one is in this state."""
        key = (one, other)
        if key not in self._comings:
            had = self._shapes_of(one) | (0 if other == ALONE else self._had_by(other))
            self._comings[key] = [(standing, target) for standing, target in self._net.next_moves(one, OUTSIDE)
                                  if is_first_alike(self._net.shapes_in(target)[0], had)]
        return self._comings[key]

    def _shapes_of(self, one):
        if one not in self._shapes:
            standing = self._net.standings.told(one)
            self._shapes[one] = 1 << standing[KEY] | 1 << standing[NOTE]
        return self._shapes[one]

    def _had_by(self, number):
        own, read = self._net.shapes_in(number)
        return 1 << own | 1 << read


def is_first_alike(own, had):
    """Whether a shape is one of those that are had, as bits, or the first one of the others; or none at all."""
    return own == 0 or had >> own & 1 == 1 or had | 1 | (1 << own) == had | ((1 << (own + 1)) - 1)
