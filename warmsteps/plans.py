"""The way to a row in which something goes wrong, as a weaving."""

from warmsteps.forward import CLAIM, COPY, SINGLE
from warmsteps.nets import OUTSIDE
from warmsteps.rows import Row, numbers_in

PUMP = "pump"


class Trail:
    """The moves to the last row of a search, as they are without turns of the shapes.

    Steps are (COPY, state, state behind, whether the standing changes) by a hand of which there are any number,
    (CLAIM, ..) by one that claims as though there were, (SINGLE, ..) by one alone; and (PUMP, number of the step from
    which on all is repeated, gains).
    """

    def __init__(self, flood):
        self._flood = flood
        self._net = flood.net
        self.steps = []
        # By how many steps are ahead of what is behind a row.
        self.ends = {}
        # By standing: the list of the ends of the rows that stand so.
        self.ends_at = {}
        self.fault = None
        self._retrace(flood.fault)

    def _retrace(self, last):
        made = []
        while last.ahead is not None:
            made.append(last)
            last = last.ahead
        row = Row(self._net.start, 1 << OUTSIDE, (), None, None)
        self._complete(row)
        for known in made[::-1]:
            row = self._behind(row, known)
            if self.fault is None:
                self._complete(row)

    def _behind(self, row, known):
        """The row behind a move, which is known with other shapes."""
        kind, number, target = known.made
        number = self._flood.turns.state(known.ahead.turn, number)
        target = self._flood.turns.state(known.ahead.turn, target)
        stands = [standing for standing, other in self._net.next_moves(row.stands, number) if other == target][0]
        many, few = self._flood.moved(row, kind, number, target)
        self.steps.append((kind, number, target, stands != row.stands))
        if self._net.goes_wrong(target):
            self.fault = target
        behind = Row(stands, many, few, row, None)
        behind.turn = known.turn
        return behind

    def _complete(self, row):
        self._close(row)
        if self.fault is None:
            self._pump(row)
        if self.fault is None:
            self.ends[len(self.steps)] = row
            self.ends_at.setdefault(row.stands, []).append(len(self.steps))

    def _close(self, row):
        agenda = numbers_in(row.many)
        while agenda and self.fault is None:
            number = agenda.pop()
            for standing, target in self._net.next_moves(row.stands, number):
                if standing == row.stands and not row.has_many(target) and self.fault is None:
                    row.many = row.many | (1 << target)
                    self.steps.append((COPY, number, target, False))
                    agenda.append(target)
                    if self._net.goes_wrong(target):
                        self.fault = target
        row.few = tuple([number for number in row.few if not row.has_many(number)])

    def _pump(self, row):
        for end in list(self.ends)[::-1]:
            gains = row.gains_since(self.ends[end]) if row.few and self.fault is None else []
            if gains:
                self.steps.append((PUMP, end, gains))
                for number, _, _ in gains:
                    row.many = row.many | (1 << number)
        if self.fault is None:
            self._close(row)


class Plan:
    """Goes the steps to a row back, and finds how many hands do each of them; need is how many are in which state."""

    def __init__(self, trail, need):
        self._trail = trail
        self._need = {number: need[number] for number in need}
        # Tuples (state, state behind, how many hands do this move one after the other), the last ones first.
        self.done = []
        # The states behind claims that several hands had to do at once.
        self.doubled = {}

    def run(self, most):
        """Go back; tell whether that came to the beginning by at most so many moves of hands."""
        agenda = [(0, len(self._trail.steps))]
        many = 0
        while agenda:
            start, at = agenda.pop()
            known = self._first_like(at)
            if known is not None:
                # All that is needed is there at this row already, so what was done since then is left out.
                agenda = []
                start, at = 0, known
            if at == start:
                continue
            step = self._trail.steps[at - 1]
            if step[0] == PUMP and not self._is_enough(step[2]):
                agenda.extend([(start, at), (step[1], at - 1)])
                continue
            agenda.append((start, at - 1))
            if step[0] != PUMP:
                many = many + self._go_back(step)
                if most is not None and many > most:
                    return False
        return True

    def _first_like(self, at):
        """The end of the first row that stands as the one with this end, and holds what is needed, or None."""
        if at in self._trail.ends:
            for end in self._trail.ends_at[self._trail.ends[at].stands]:
                if end <= at and self._trail.ends[end].holds(self._need):
                    return end
        return None

    def _is_enough(self, gains):
        return all([self._need.get(number, 0) <= have for number, have, _ in gains])

    def _go_back(self, step):
        """Tell how many hands do this step; what is needed is then what must be ahead of it."""
        kind, number, target, changes = step
        needed = self._need.pop(target, 0)
        if needed == 0 and not changes:
            return 0
        many = 1 if kind == SINGLE else max(1, needed)
        if kind == CLAIM and many > 1:
            self.doubled[target] = True
        if needed > many:
            self._need[target] = needed - many
        if number != OUTSIDE:
            self._need[number] = self._need.get(number, 0) + many
        self.done.append((number, target, many))
        return many


def plan_of_fault(flood):
    """A plan by which a hand goes wrong at last, as a search found it."""
    trail = Trail(flood)
    plan = Plan(trail, {trail.fault: 1})
    plan.done.append((trail.fault, OUTSIDE, 1))
    return plan


def plan_of_goal(flood, goal):
    """The tuple of a plan by which a search reached its goal, and the turn that makes it one for the goal's shapes."""
    turns = flood.turns
    turn = turns.behind(flood.reached, flood.fault.turn)
    need = {turns.state(turn, number): goal[number] for number in goal}
    return Plan(Trail(flood), need), turns.every[turns.back(turn)]


def woven(net, moves):
    """The events of the moves of a plan, with a number for each hand."""
    events = []
    inside = {}
    outside = []
    came = 0
    for number, target, many in moves:
        for _ in range(many):
            if number != OUTSIDE:
                hand = inside[number].pop()
                events.append((hand,))
            else:
                if not outside:
                    outside.append(came)
                    came += 1
                hand = outside.pop()
                events.append(net.coming(hand, target))
            if target == OUTSIDE:
                outside.append(hand)
            else:
                inside.setdefault(target, []).append(hand)
    return events
