"""Stage 6: what visits cost, and whether one of two rules ever costs more than the other one by more than an amount."""

from warmsteps.errors import GoneWrong, NotRight, OtherPattern
from warmsteps.forms import is_integer, looks, need_shapes
from warmsteps.sites import is_coming_cell, is_own_shape
from warmsteps.steps import arrived, beginning, is_standing, stepped

MOST_AMOUNT = 200


def visited(rules, standing, visit, price):
    """The tuple of the standing behind a visit of a hand alone, and its cost."""
    cell, shape = visit
    state = arrived(rules, standing, cell, shape)
    cost = 1
    while state is not None:
        cost = cost + 1 + (price if is_dear(rules, state) else 0)
        standing, state = stepped(rules, standing, state)
    return standing, cost


def never_dearer(one, other, shapes, price, amount):
    """("yes", heights that show it), or ("no", visits after which the first is dearer by more)."""
    need_alike(one, other, shapes)
    climb = Climb(one, other, shapes, price)
    visits = climb.run(amount)
    return ("yes", climb.heights()) if visits is None else ("no", visits)


def is_heights(one, other, shapes, price, amount, value):
    """Whether any value is a list of heights that show that the first is never dearer by the amount."""
    need_alike(one, other, shapes)
    if not isinstance(value, list) or not all([has_height_form(one, other, shapes, part) for part in value]):
        return False
    heights = {}
    for standing, other_standing, height in value:
        if (standing, other_standing) in heights or height > amount:
            return False
        heights[(standing, other_standing)] = height
    if heights.get((beginning(one), beginning(other)), -1) < 0:
        return False
    climb = Climb(one, other, shapes, price)
    for pair in heights:
        if not climb.is_held(pair, heights):
            return False
    return True


def is_dearer(one, other, shapes, price, amount, value):
    """Whether any value is a list of visits after which, and no sooner, the first is dearer by more than the amount."""
    need_alike(one, other, shapes)
    visits = all_visits(one, shapes)
    if not isinstance(value, list) or not all([is_visit(visits, part) for part in value]):
        return False
    climb = Climb(one, other, shapes, price)
    pair = (beginning(one), beginning(other))
    lead = 0
    for number, visit in enumerate(value):
        pair, more = climb.behind(pair, visit)
        lead = lead + more
        if lead > amount:
            return number == len(value) - 1
    return False


def greatest_lead(one, other, shapes, price):
    """The least amount, from 0 to 200, by which the first is never dearer, or None."""
    need_alike(one, other, shapes)
    climb = Climb(one, other, shapes, price)
    if climb.run(MOST_AMOUNT) is not None:
        return None
    return max([height[2] for height in climb.heights()])


class Climb:
    """All pairs of standings of two rules that the same visits of a hand alone bring, with the greatest leads there."""

    def __init__(self, one, other, shapes, price):
        self._one = one
        self._other = other
        self._price = price
        self._visits = all_visits(one, shapes)
        self._known = {}
        self._leads = {}
        # Tuples (number of the one ahead, visit): the visits to a pair, the last one first.
        self._ways = [(0, None)]

    def run(self, amount):
        """Find the leads; give the visits after which one is above the amount, or None if none is."""
        start = (beginning(self._one), beginning(self._other))
        self._leads = {start: 0}
        level = {start: (0, 0)}
        while level:
            higher = {}
            for pair in level:
                lead, number = level[pair]
                for visit in self._visits:
                    after, more = self.behind(pair, visit)
                    if after not in self._leads or lead + more > self._leads[after]:
                        self._leads[after] = lead + more
                        higher[after] = (lead + more, len(self._ways))
                        self._ways.append((number, visit))
                        if lead + more > amount:
                            return self._visits_to(len(self._ways) - 1)
            level = higher
        return None

    def heights(self):
        """The list of the heights that are the greatest leads."""
        return [(pair[0], pair[1], self._leads[pair]) for pair in self._leads]

    def is_held(self, pair, heights):
        """Whether the heights are right behind each visit from a pair of standings."""
        for visit in self._visits:
            try:
                after, more = self.behind(pair, visit)
            except GoneWrong:
                return False
            if after not in heights or heights[after] < heights[pair] + more:
                return False
        return True

    def behind(self, pair, visit):
        """The tuple of the pair behind a visit, and by how much more it costs with the first rules."""
        standing, cost = self._visited(self._one, 1, pair[0], visit)
        other, less = self._visited(self._other, 2, pair[1], visit)
        return (standing, other), cost - less

    def _visited(self, rules, which, standing, visit):
        key = (which, standing, visit)
        if key not in self._known:
            self._known[key] = visited(rules, standing, visit, self._price)
        return self._known[key]

    def _visits_to(self, number):
        visits = []
        while number:
            number, visit = self._ways[number]
            visits.append(visit)
        return visits[::-1]


def is_dear(rules, state):
    """Whether the next move of a hand in this state is one that costs the price, too."""
    return state[1][:1] == (("do", 1),) and looks(rules.pattern)


def all_visits(rules, shapes):
    """The ascending list of the visits."""
    shapes_at = {1: list(range(1, shapes + 1)) if looks(rules.pattern) else [0], 2: [0]}
    return [(cell, shape) for cell in shapes_at if is_coming_cell(rules, cell) for shape in shapes_at[cell]]


def is_visit(visits, value):
    """Whether any value is one of these visits."""
    if not isinstance(value, tuple) or len(value) != 2 or not all([is_integer(part) for part in value]):
        return False
    return value in visits


def has_height_form(one, other, shapes, value):
    """Whether any value is a tuple of a standing of each rules and a height."""
    if not isinstance(value, tuple) or len(value) != 3 or not is_integer(value[2]):
        return False
    return is_standing(one, shapes, value[0]) and is_standing(other, shapes, value[1])


def is_right_alone(rules, shapes):
    """Whether no hand alone goes wrong."""
    visits = all_visits(rules, shapes)
    agenda = [beginning(rules)]
    seen = {beginning(rules): True}
    while agenda:
        standing = agenda.pop()
        for visit in visits:
            try:
                after, _ = visited(rules, standing, visit, 0)
            except GoneWrong:
                return False
            if after not in seen:
                seen[after] = True
                agenda.append(after)
    return True


def need_alike(one, other, shapes):
    """Raise the error that applies first, if these two rules are not to be held against one another."""
    if one.pattern != other.pattern or one.closed != other.closed:
        raise OtherPattern(other)
    need_shapes(shapes)
    for rules in (one, other):
        if not is_right_alone(rules, shapes):
            raise NotRight(rules)
