"""Rows that cover all that can be at a site, or a way to what goes wrong, searched from the beginning.

Hands that held no claim since they came can be doubled: a second one comes behind the first and does each move right
after it, with the same end. So where one of them is, any number can be. Hands behind a claim that held are counted,
but at first just behind those claims for which it is needed: the others are taken as though several hands could do
them, until something goes wrong by this that could not be.
"""

from collections import deque

from warmsteps.nets import OUTSIDE, UNCHANGED, meetings

COPY = "copy"
CLAIM = "claim"
SINGLE = "single"
PUMP = "pump"
MOST_IN_BREADTH = 1000
MANY_EVENTS = 20000


class Row:
    """A row of the search: many is a set of states as bits, few an ascending tuple of states.

    Steps are what was done behind the row ahead: (COPY, state, state behind, whether the standing changes) by a hand
    of which there are any number, (CLAIM, ..) by one that claims as though there were, (SINGLE, ..) by one alone; and
    (PUMP, number of the step from which on all is repeated, gains), gains a list of tuples of a state, how many hands
    are in it, and how many more with each repetition. Start is how many steps stand ahead of these.
    """

    def __init__(self, standing, many, few, ahead, steps):
        self.stands = standing
        self.many = many
        self.few = few
        self.ahead = ahead
        self.steps = steps
        self.start = 0 if ahead is None else ahead.end()
        self.fault = None

    def end(self):
        """The number of all steps to this row, its own ones too."""
        return self.start + len(self.steps)

    def has_many(self, number):
        """Whether any number of hands can be in this state."""
        return self.many >> number & 1 == 1

    def covers(self, other):
        """Whether this row covers one with the same standing."""
        if other.many & ~self.many:
            return False
        for number in other.few:
            if not self.has_many(number) and self.few.count(number) < other.few.count(number):
                return False
        return True

    def holds(self, need):
        """Whether so many hands can be in these states; need is a dict from states to numbers of hands."""
        for number in need:
            if not self.has_many(number) and self.few.count(number) < need[number]:
                return False
        return True

    def gains_since(self, other):
        """The gains of the steps from another row to this one, [] if they cannot be repeated or gain nothing."""
        if other.stands != self.stands or len(other.few) > len(self.few) or not self.covers(other):
            return []
        gains = []
        for at, number in enumerate(self.few):
            gain = self.few.count(number) - other.few.count(number)
            if gain > 0 and number not in self.few[:at]:
                gains.append((number, self.few.count(number), gain))
        return gains


class Rows:
    """A list of rows, asked by their standings."""

    def __init__(self):
        self._rows = {}

    def add(self, row):
        """Take a row, and leave out those that it covers."""
        others = [other for other in self._rows.get(row.stands, []) if not row.covers(other)]
        self._rows[row.stands] = [*others, row]

    def has_covered(self, row):
        """Whether one of the rows covers this one."""
        for other in self._rows.get(row.stands, []):
            if other.covers(row):
                return True
        return False

    def told(self, net):
        """The list of the rows as tuples."""
        found = []
        for standing in self._rows:
            for row in self._rows[standing]:
                many = [net.states[number] for number in numbers_in(row.many) if number != OUTSIDE]
                few = [net.states[number] for number in row.few]
                found.append((net.standings.told(standing), tuple(sorted(many)), tuple(sorted(few))))
        return found


class Flood:
    """Searches the rows of a net; of hands behind claims those are counted whose states are in a dict."""

    def __init__(self, net, counted):
        self._net = net
        self._counted = counted
        self._harmless = {}
        self.rows = Rows()
        self.fault = None

    def run(self, breadth, most):
        """Search, the rows near the beginning first or last; tell whether that ended within so many rows."""
        agenda = deque()
        agenda.append(Row(self._net.start, 1 << OUTSIDE, (), None, []))
        kept = 0
        while agenda and self.fault is None:
            row = agenda.popleft() if breadth else agenda.pop()
            if self._is_kept(row):
                kept += 1
                if kept == most:
                    return False
                agenda.extend(self._rows_behind(row))
            if row.fault is not None:
                self.fault = row
        return True

    def _is_kept(self, row):
        """Complete a row, and keep it if nothing goes wrong in it and no other one covers it."""
        if row.fault is not None or self.rows.has_covered(row):
            return False
        self._close(row)
        if row.fault is None and not self.rows.has_covered(row):
            self._pump(row)
        if row.fault is not None or self.rows.has_covered(row):
            return False
        self.rows.add(row)
        return True

    def _close(self, row):
        """Add to many what many hands can come to while the standing stays."""
        agenda = numbers_in(row.many)
        while agenda and row.fault is None:
            number = agenda.pop()
            for standing, target in self._net.next_moves(row.stands, number):
                if standing == row.stands and not row.has_many(target):
                    row.many = row.many | (1 << target)
                    row.steps.append((COPY, number, target, False))
                    agenda.append(target)
                    if self._net.goes_wrong(target):
                        row.fault = target
        row.few = tuple([number for number in row.few if not row.has_many(number)])

    def _pump(self, row):
        """Make many of those few of which there are more with each repetition of some last steps."""
        other = row.ahead
        while other is not None and row.few and row.fault is None:
            gains = row.gains_since(other)
            if gains:
                row.steps.append((PUMP, other.end(), gains))
                for number, _, _ in gains:
                    row.many = row.many | (1 << number)
                self._close(row)
            other = other.ahead

    def _rows_behind(self, row):
        """The rows behind one move that changes the standing, or is one of few.

        A search in depth takes the last ones first: by what many hands write, more can be many, which covers more.
        """
        alone = self._rows_of_few(row)
        claimed = []
        copied = []
        written = {}
        for number in numbers_in(row.many)[::-1]:
            for standing, target in self._net.next_moves(row.stands, number):
                if standing == row.stands:
                    continue
                if self._net.claims(number):
                    if self._is_single(row, target):
                        alone.append(self._alone(row, standing, row.few, number, target))
                    else:
                        claimed.append(self._moved(row, standing, CLAIM, number, target))
                elif standing not in written:
                    # One hand is enough: behind it, the others that write the same do not change the standing.
                    written[standing] = True
                    copied.append(self._moved(row, standing, COPY, number, target))
        return alone + claimed + copied

    def _rows_of_few(self, row):
        found = []
        for at, number in enumerate(row.few):
            if at == 0 or number != row.few[at - 1]:
                others = row.few[:at] + row.few[at + 1:]
                for standing, target in self._net.next_moves(row.stands, number):
                    found.append(self._alone(row, standing, others, number, target))
        return found

    def _is_single(self, row, target):
        """Whether a hand behind a claim is taken as one alone, not as though there could be several."""
        return row.has_many(target) or target in self._counted or self._is_harmless(target)

    def _moved(self, row, standing, kind, number, target):
        step = (kind, number, target, True)
        return self._row(row, standing, row.many | (1 << target), row.few, step)

    def _alone(self, row, standing, others, number, target):
        step = (SINGLE, number, target, standing != row.stands)
        if row.has_many(target) or self._is_harmless(target):
            return self._row(row, standing, row.many | (1 << target), others, step)
        return self._row(row, standing, row.many, tuple(sorted([*others, target])), step)

    def _row(self, ahead, standing, many, few, step):
        row = Row(standing, many, few, ahead, [step])
        if self._net.goes_wrong(step[2]):
            row.fault = step[2]
        return row

    def _is_harmless(self, number):
        """Whether a hand in this state writes nothing more, and never goes wrong: then its number does not matter."""
        if number not in self._harmless:
            self._harmless[number] = number == OUTSIDE or (not self._net.goes_wrong(number) and all(
                [change == UNCHANGED and self._is_harmless(target) for change, target in self._net.ways(number)]))
        return self._harmless[number]


class Plan:
    """Goes the steps to a wrong row back, and finds how many hands do each of them."""

    def __init__(self, row):
        self._need = {row.fault: 1}
        self._steps = []
        self._rows = {}
        self._ends = {}
        # Tuples (state, state behind, how many hands do this move one after the other), the last ones first.
        self.done = [(row.fault, OUTSIDE, 1)]
        # The states behind claims that several hands had to do at once.
        self.doubled = {}
        rows = []
        while row is not None:
            rows.append(row)
            row = row.ahead
        for known in rows[::-1]:
            self._steps.extend(known.steps)
            if known.fault is None:
                self._ends[known.end()] = known
                self._rows.setdefault(known.stands, []).append(known)

    def run(self, most):
        """Go back; tell whether that came to the beginning by at most so many moves of hands."""
        agenda = [(0, len(self._steps))]
        many = 0
        while agenda:
            start, at = agenda.pop()
            known = self._first_like(at)
            if known is not None:
                # All that is needed is there at this row already, so what was done since then is left out.
                agenda = []
                start, at = 0, known.end()
            if at == start:
                continue
            step = self._steps[at - 1]
            if step[0] == PUMP and not self._is_enough(step[2]):
                agenda.extend([(start, at), (step[1], at - 1)])
                continue
            agenda.append((start, at - 1))
            if step[0] != PUMP:
                many = many + self._go_back(step)
                if most is not None and many > most:
                    return False
        return True

    def _first_like(self, at):
        """The first row that stands as the one with this end, and holds what is needed, or None."""
        if at in self._ends:
            for row in self._rows[self._ends[at].stands]:
                if row.end() <= at and row.holds(self._need):
                    return row
        return None

    def _is_enough(self, gains):
        return all([self._need.get(number, 0) <= have for number, have, _ in gains])

    def _go_back(self, step):
        """Tell how many hands do this step; what is needed is then what must be ahead of it."""
        kind, number, target, changes = step
        needed = self._need.pop(target, 0)
        if needed == 0 and not changes:
            return 0
        many = 1 if kind == SINGLE else max(1, needed)
        if kind == CLAIM and many > 1:
            self.doubled[target] = True
        if needed > many:
            self._need[target] = needed - many
        if number != OUTSIDE:
            self._need[number] = self._need.get(number, 0) + many
        self.done.append((number, target, many))
        return many


def numbers_in(bits):
    """The ascending list of the numbers of the bits that are set."""
    found = []
    while bits:
        low = bits & -bits
        found.append(low.bit_length() - 1)
        bits = bits ^ low
    return found


def plain_rows(net):
    """A right list of one row for each standing, none of which counts hands, or None if there is no such list."""
    many = net.gather()
    met = meetings(net.standings, net.start, net.all_ways(), many)
    if any([met[number] and net.goes_wrong(number) for number in range(many)]):
        return None
    found = []
    for bit in numbers_in(met[OUTSIDE]):
        states = [net.states[number] for number in range(1, many) if met[number] >> bit & 1]
        found.append((net.standings.told(1 << bit), tuple(sorted(states)), ()))
    return found


def settled(net, most):
    """("right", a right list of rows), or ("wrong", a wrong weaving), None for one of more than so many events."""
    rows = plain_rows(net)
    if rows is not None:
        return "right", rows
    claimed = net.claimed()
    counted = {}
    while True:
        flood = flooded(net, counted)
        if flood.fault is None:
            return "right", flood.rows.told(net)
        plan = Plan(flood.fault)
        is_whole = plan.run(most)
        if plan.doubled:
            counted = {**counted, **plan.doubled}
        elif is_whole:
            return "wrong", woven(net, plan.done[::-1])
        elif len(counted) == len(claimed):
            return "wrong", None
        else:
            # Where all are counted, it is sure that something goes wrong, however long the plan is.
            counted = {number: True for number in claimed}


def flooded(net, counted):
    """A search that has ended: one in breadth finds shorter ways, one in depth ends sooner where there is none."""
    flood = Flood(net, counted)
    if not flood.run(True, MOST_IN_BREADTH):
        flood = Flood(net, counted)
        flood.run(False, None)
    return flood


def woven(net, moves):
    """The events of the moves of a plan, with a number for each hand."""
    events = []
    inside = {}
    outside = []
    came = 0
    for number, target, many in moves:
        for _ in range(many):
            if number != OUTSIDE:
                hand = inside[number].pop()
                events.append((hand,))
            else:
                if not outside:
                    outside.append(came)
                    came += 1
                hand = outside.pop()
                events.append((hand, net.states[target][0], net.states[target][2]))
            if target == OUTSIDE:
                outside.append(hand)
            else:
                inside.setdefault(target, []).append(hand)
    return events
