"""Rows by numbers: what can be at a site, and what covers what."""

from warmsteps.nets import OUTSIDE


class Row:
    """A row of a search: many is a set of states as bits, OUTSIDE among them, few an ascending tuple of states.

    Made is the tuple (kind, state, state behind) of the move by which it came from the row ahead, or None. Where rows
    have their shapes turned, turn is the number of the turn that turns them back.
    """

    def __init__(self, stands, many, few, ahead, made):
        self.stands = stands
        self.many = many
        self.few = few
        self.ahead = ahead
        self.made = made
        self.turn = 0
        self.fault = None

    def has_many(self, number):
        """Whether any number of hands can be in this state."""
        return self.many >> number & 1 == 1

    def covers(self, other):
        """Whether this row covers one with the same standing."""
        if other.many & ~self.many:
            return False
        for number in other.few:
            if not self.many >> number & 1 and self.few.count(number) < other.few.count(number):
                return False
        return True

    def holds(self, need):
        """Whether so many hands can be in these states; need is a dict from states to numbers of hands."""
        for number in need:
            if not self.has_many(number) and self.few.count(number) < need[number]:
                return False
        return True

    def gains_since(self, other):
        """The gains of the moves from another row to this one, [] if they cannot be repeated or gain nothing.

        A gain is a tuple of a state, how many hands are in it, and how many more with each repetition.
        """
        if other.stands != self.stands or other.turn != self.turn:
            return []
        if len(other.few) > len(self.few) or not self.covers(other):
            return []
        gains = []
        for at, number in enumerate(self.few):
            gain = self.few.count(number) - other.few.count(number)
            if gain > 0 and number not in self.few[:at]:
                gains.append((number, self.few.count(number), gain))
        return gains


class Rows:
    """A list of rows, asked by their standings."""

    def __init__(self):
        self._rows = {}

    def add(self, row):
        """Take a row, and leave out those that it covers."""
        others = [other for other in self._rows.get(row.stands, []) if not row.covers(other)]
        self._rows[row.stands] = [*others, row]

    def has_covered(self, row):
        """Whether one of the rows covers this one."""
        for other in self._rows.get(row.stands, ()):
            if other.covers(row):
                return True
        return False

    def listed(self):
        """The list of the rows."""
        return [row for stands in self._rows for row in self._rows[stands]]


def numbers_in(bits):
    """The ascending list of the numbers of the bits that are set."""
    found = []
    while bits:
        low = bits & -bits
        found.append(low.bit_length() - 1)
        bits = bits ^ low
    return found


def told_rows(net, rows):
    """The list of tuples (standing, many, few) for a list of tuples of one standing, a set of states, and few."""
    states = [net.told(number) for number in range(net.how_many())]
    ascending = sorted(list(range(1, net.how_many())), key=lambda one: states[one])
    rank = [0] * net.how_many()
    for at, number in enumerate(ascending):
        rank[number] = at
    found = []
    for stands, many, few in rows:
        ranks = sorted([rank[number] for number in numbers_in(many) if number != OUTSIDE])
        few_ranks = sorted([rank[number] for number in few])
        found.append((net.standings.told(stands), tuple([states[ascending[at]] for at in ranks]),
                      tuple([states[ascending[at]] for at in few_ranks])))
    return found
