"""Rows that cover all that can be at a site, or a row in which something goes wrong, searched from the beginning.

Hands that held no claim since they came can be doubled: a second one comes behind the first and does each move right
after it, with the same end. So where one of them is, any number can be. Hands behind a claim that held are counted.
Where that makes too many rows, only those are counted for which it is needed: the others are taken as though several
hands could do the claim, until something goes wrong by this that could not be.
"""

from collections import deque

from warmsteps.nets import OUTSIDE, UNCHANGED
from warmsteps.rows import Row, Rows, numbers_in
from warmsteps.turns import SAME, Turns

COPY = "copy"
CLAIM = "claim"
SINGLE = "single"


class Flood:
    """Searches the rows of a net, each for all that differ from it by a turn of the shapes alone.

    Counted is the dict of the states behind claims in which hands are counted, or None for all. Goal is a dict from
    states to numbers of hands, or None: the search ends where these can be inside at once.
    """

    def __init__(self, net, counted, goal=None):
        self.net = net
        self.turns = Turns(net)
        self._counted = counted
        self._goals = [] if goal is None else turned_goals(self.turns, goal)
        # The number of the turn with which the goal is reached in the row that is the fault.
        self.reached = None
        self._harmless = {number: False for turned in self._goals for number in turned}
        # By one standing: for the bit of a state the set of states behind its moves that leave the standing as it is.
        self._staying = {}
        # By one standing: the states whose moves change it, as bits, and by state the list of what these moves do.
        self._loud = {}
        self._changing = {}
        self._closed = {}
        self._seen = {}
        self.rows = Rows()
        self.fault = None

    def run(self, breadth, most):
        """Search, the rows near the beginning first or last; tell whether that ended within so many rows."""
        agenda = deque()
        agenda.append(Row(self.net.start, 1 << OUTSIDE, (), None, None))
        kept = 0
        while agenda and self.fault is None:
            row = agenda.popleft() if breadth else agenda.pop()
            if self._is_kept(row):
                kept += 1
                if kept == most:
                    return False
                agenda.extend(self._rows_behind(row))
        return True

    def listed(self):
        """The list of tuples (one standing, set of states, few) of all rows, those too that differ by turns."""
        found = {}
        for row in self.rows.listed():
            for turn in range(len(self.turns.every)):
                key = (self.turns.turned_one(turn, row.stands), self.turns.states(turn, row.many),
                       self.turns.turned_few(turn, row.few))
                found[key] = True
        return list(found)

    def _is_kept(self, row):
        """Complete a row, and keep it if nothing goes wrong in it and no other one covers it."""
        self._close(row)
        if self.fault is not None or self.rows.has_covered(row):
            return False
        if row.few and self._has_pumped(row):
            self._close(row)
            if self.fault is not None or self.rows.has_covered(row):
                return False
        self.rows.add(row)
        for turn, goal in enumerate(self._goals):
            if row.holds(goal):
                self.fault = row
                self.reached = turn
        return True

    def _close(self, row):
        """Add to many what many hands can come to while the standing stays."""
        key = (row.stands, row.many)
        if key not in self._closed:
            self._closed[key] = self._closing(row.stands, row.many)
        row.many = self._closed[key]
        if row.few:
            row.few = tuple([number for number in row.few if not row.has_many(number)])
        if row.many & self.net.wrong_ones:
            self.fault = row

    def _closing(self, stands, many):
        staying = self._staying.setdefault(stands, {})
        agenda = many
        while agenda:
            low = agenda & -agenda
            if low not in staying:
                self._learn(stands, low)
            new = staying[low] & ~many
            many = many | new
            agenda = (agenda ^ low) | new
        return many

    def _learn(self, stands, bit):
        """Find what the next move of a hand in this state does in this standing."""
        number = bit.bit_length() - 1
        ways = self.net.ways_of(number)
        behind = 0
        changing = []
        for change, target in ways:
            if ways[(change, target)] & stands:
                standing = self.net.standings.behind(stands, change) if change != UNCHANGED else stands
                if standing == stands:
                    behind = behind | (1 << target)
                else:
                    changing.append((standing, target))
        self._staying[stands][bit] = behind
        if changing:
            self._loud[stands] = self._loud.get(stands, 0) | bit
            self._changing[(stands, number)] = changing

    def _has_pumped(self, row):
        """Make many of those few of which there are more with each repetition of some last moves, if there are any."""
        before = row.many
        other = row.ahead
        while other is not None:
            for number, _, _ in row.gains_since(other):
                row.many = row.many | (1 << number)
            other = other.ahead
        return row.many != before

    def _rows_behind(self, row):
        """The rows behind one move that changes the standing, or is one of few.

        A search in depth takes the last ones first: by what many hands write, more can be many, which covers more.
        """
        alone = self._rows_of_few(row)
        claimed = []
        copied = []
        written = {}
        for number in numbers_in(row.many & self._loud.get(row.stands, 0))[::-1]:
            for standing, target in self._changing[(row.stands, number)]:
                if self.net.claims(number):
                    if self._is_single(row, target):
                        alone.extend(self._rows_by(row, SINGLE, number, standing, target))
                    else:
                        claimed.extend(self._rows_by(row, CLAIM, number, standing, target))
                elif standing not in written:
                    # One hand is enough: behind it, the others that write the same do not change the standing.
                    written[standing] = True
                    copied.extend(self._rows_by(row, COPY, number, standing, target))
        return alone + claimed + copied

    def _rows_of_few(self, row):
        found = []
        for at, number in enumerate(row.few):
            if at == 0 or number != row.few[at - 1]:
                for standing, target in self.net.next_moves(row.stands, number):
                    found.extend(self._rows_by(row, SINGLE, number, standing, target))
        return found

    def _is_single(self, row, target):
        """Whether a hand behind a claim is taken as one alone, not as though there could be several."""
        if self._counted is None or target in self._counted:
            return True
        return row.has_many(target) or self._is_harmless(target)

    def _rows_by(self, row, kind, number, standing, target):
        """The list of the row behind a move, empty if there was such a one already."""
        many, few = self.moved(row, kind, number, target)
        turn, standing = self.turns.first(standing)
        many = self.turns.states(turn, many)
        few = self.turns.turned_few(turn, few)
        key = (standing, many, few)
        if key in self._seen:
            return []
        self._seen[key] = True
        behind = Row(standing, many, few, row, (kind, number, target))
        behind.turn = row.turn if turn == SAME else self.turns.behind(self.turns.back(turn), row.turn)
        if self.net.goes_wrong(target):
            self.fault = behind
        return [behind]

    def moved(self, row, kind, number, target):
        """The tuple of many and few behind a move from a row."""
        if kind != SINGLE:
            return row.many | (1 << target), row.few
        others = list(row.few)
        if not row.has_many(number):
            others.remove(number)
        if row.has_many(target) or self._is_harmless(target):
            return row.many | (1 << target), tuple(others)
        return row.many, tuple(sorted([*others, target]))

    def _is_harmless(self, number):
        """Whether a hand in this state writes nothing more, and never goes wrong: then its number does not matter."""
        if number not in self._harmless:
            self._harmless[number] = number == OUTSIDE or (not self.net.goes_wrong(number) and all(
                [change == UNCHANGED and self._is_harmless(target) for change, target in self.net.ways_of(number)]))
        return self._harmless[number]


def turned_goals(turns, goal):
    """By turn: the goal with its shapes turned."""
    return [{turns.state(turn, number): goal[number] for number in goal} for turn in range(len(turns.every))]
