"""The least weavings of few hands, searched from what goes wrong back to the beginning.

A need is an ascending tuple of classes of states, with a set of standings: so many hands in these states, others
beside them, go wrong by some more events. Classes hold states that no move tells apart.
"""

from heapq import heappop, heappush

from warmsteps.nets import OUTSIDE, UNCHANGED, meetings
from warmsteps.steps import KEY, NOTE, arrivals, beginning, put, stepped

WRONG = 1


class Classes:
    """The classes of the states of a net, OUTSIDE and WRONG and others, and what moves do with them.

    A half of the standing on which nothing depends is always as in the beginning here.
    """

    def __init__(self, net):
        self.net = net
        many = net.gather()
        self._first = [number if number == OUTSIDE else WRONG if net.goes_wrong(number) else 2
                       for number in range(many)]
        self._of = self._first
        self._idle = {KEY: True, NOTE: True}
        used = self._settle()
        while used:
            self._idle = {part: True for part in self._idle if part not in used}
            used = self._settle()
        self.many = 1 + max(self._of)
        found = {}
        for number, own in enumerate(self._of):
            ways = self._ways(number)
            for change, target in ways:
                found[(own, change, target)] = ways[(change, target)]
        self.ways = [(own, found[(own, change, target)], change, target) for own, change, target in found]

    def number(self, state):
        """The class of a state, or of None for a hand outside."""
        return self._of[self.net.number(state)]

    def one(self, standing):
        """The set of one standing."""
        for part in self._idle:
            standing = put(standing, part, 0)
        return self.net.standings.one(standing)

    def _settle(self):
        """Split the classes as far as they must be; give the idle halves on which something depends then."""
        self._of = self._first
        before = 0
        while before != len(set(self._of)):
            before = len(set(self._of))
            self._of = self._split()
        used = {}
        for number in range(1, len(self._of)):
            part = self.net.asked(number)
            if part in self._idle and len(self._ways(number)) > 1:
                used[part] = True
        return used

    def _split(self):
        """The classes split by what moves do; OUTSIDE and WRONG, met first, keep their numbers."""
        signs = {(OUTSIDE,): OUTSIDE, (WRONG,): WRONG}
        classes = []
        for number, own in enumerate(self._of):
            sign = (own,)
            if own not in (OUTSIDE, WRONG):
                ways = self._ways(number)
                sign = (own, tuple(sorted([(change, target, ways[(change, target)]) for change, target in ways])))
            classes.append(signs.setdefault(sign, len(signs)))
        return classes

    def _ways(self, number):
        ways = self.net.ways(number)
        found = {}
        for change, target in ways:
            is_idle = change != UNCHANGED and self.net.standings.part(change) in self._idle
            key = (UNCHANGED if is_idle else change, self._of[target])
            found[key] = found.get(key, 0) | ways[(change, target)]
        return found


class Search:
    """Goes back from what goes wrong, for weavings of at most so many hands, the shorter ones first."""

    def __init__(self, classes, hands):
        self._standings = classes.net.standings
        self._start = classes.net.start
        self._hands = hands
        self._met = meetings(self._standings, self._start, classes.ways, classes.many)
        self._depth = depths(classes, self._met)
        self._moves_to = [[] for _ in range(classes.many)]
        self._writers = {}
        # By class: the classes from which a hand comes to it by a move that depends on nothing and writes nothing.
        self._freely_from = [[] for _ in range(classes.many)]
        for source, found, change, target in classes.ways:
            doing = found & self._met[source]
            if doing:
                self._moves_to[target].append((source, doing, change))
            if doing and change != UNCHANGED:
                self._writers.setdefault((change, doing), []).append(source)
            if doing and change == UNCHANGED and found == self._standings.whole and source != OUTSIDE:
                self._freely_from[target].append(source)
        # By class: how many free moves are next.
        self._free = free_moves(self._freely_from)
        # By class: whether hands come to it by such moves only. The last one of these can stand behind what others do
        # meanwhile, so such classes stand in no need: they are taken back at once.
        self._late = [number != OUTSIDE and len(self._freely_from[number]) == len(self._moves_to[number])
                      for number in range(classes.many)]
        # By need: the list of tuples (events left, standings), those with the fewest events first.
        self._found = {}
        # By (least number of all events, events left): the dict from needs to standings that are still to be judged.
        self._agenda = {}
        self._queue = []

    def run(self):
        """The number of events of the shortest wrong weavings, or None."""
        shortest = None
        if self._depth[WRONG] is not None:
            self._put((WRONG,), self._standings.whole, 1)
        while self._queue:
            key = heappop(self._queue)
            if shortest is not None and key[0] > shortest:
                break
            needs = self._agenda.pop(key)
            for need in needs:
                new = needs[need] & ~self._known(need, key[1])
                if new:
                    self._found.setdefault(need, []).append((key[1], new))
                    if new & self._start and need[-1] == OUTSIDE and shortest is None:
                        shortest = key[1]
                    self._go_back(need, new, key[1])
        return shortest

    def reaches(self, one, inside, left):
        """Whether hands in these classes, all there are, go wrong by at most so many events from one standing.

        Some may be ahead of what is needed by free moves: these are done already.
        """
        needs = {(): 0}
        for number in inside:
            longer = {}
            for source, moves in self._ahead_of(number):
                for need in needs:
                    more = tuple(sorted((*need, source)))
                    longer[more] = max(longer.get(more, 0), needs[need] + moves)
            for need in longer:
                needs[need] = max(needs.get(need, 0), longer[need])
        for need in needs:
            if self._known_of(need, left + needs[need]) & one:
                return True
        return False

    def _ahead_of(self, number):
        """The list of tuples of a class from which a hand comes freely to this one, and by how many moves."""
        found = [(number, 0)]
        for source in self._freely_from[number]:
            found.extend([(other, moves + 1) for other, moves in self._ahead_of(source)])
        return found

    def _known_of(self, need, left):
        known = 0
        for events, found in self._found.get(need, ()):
            if events <= left:
                known = known | found
        return known

    def _known(self, need, left):
        """The standings of which it is found that they need no more than this, and so many events.

        A hand that is not needed might be ahead by its next free moves, so these must be won by doing without it.
        """
        known = 0
        for part, saved in self._parts_of(need):
            known = known | self._known_of(part, left - saved)
        return known

    def _parts_of(self, need):
        """The list of tuples of a part of a need that is not empty and the free moves of those left out."""
        parts = [((), 0)]
        for number in need:
            kept = [((*part, number), saved) for part, saved in parts]
            parts = [(part, saved + self._free[number]) for part, saved in parts] + kept
        return parts[1:]

    def _put(self, need, found, left):
        """Take what goes wrong by so many events, or what leads to it by moves that can be the last ones."""
        for number in need:
            found = found & self._met[number]
        if not found:
            return
        for at, number in enumerate(need):
            if self._late[number]:
                self._go_back_by(need, at, found, left)
                return
        key = (left + sum([self._depth[number] for number in need]), left)
        if key not in self._agenda:
            self._agenda[key] = {}
            heappush(self._queue, key)
        needs = self._agenda[key]
        needs[need] = needs.get(need, 0) | found

    def _go_back(self, need, found, left):
        """Put what leads to this by one event, by a hand that is needed for it or by another one."""
        for at, number in enumerate(need):
            if at == 0 or number != need[at - 1]:
                self._go_back_by(need, at, found, left)
        if len(need) < self._hands:
            known = self._known(need, left + 1)
            for change, doing in self._writers:
                ahead = self._standings.ahead(found, change) & doing & ~known
                if ahead:
                    for source in self._writers[(change, doing)]:
                        self._put(tuple(sorted((*need, source))), ahead, left + 1)

    def _go_back_by(self, need, at, found, left):
        others = need[:at] + need[at + 1:]
        for source, doing, change in self._moves_to[need[at]]:
            ahead = self._standings.ahead(found, change) & doing
            if ahead:
                self._put(tuple(sorted((*others, source))), ahead, left + 1)


def free_moves(freely_from):
    """By class, how many moves that depend on nothing and write nothing a hand does next, one after the other."""
    free = [0] * len(freely_from)
    before = []
    while free != before:
        before = list(free)
        for target, sources in enumerate(freely_from):
            for source in sources:
                free[source] = 1 + free[target]
    return free


def depths(classes, met):
    """By class, the fewest events by which a hand from outside comes to it, None if it never does."""
    depth = [None] * classes.many
    depth[OUTSIDE] = 0
    level = [OUTSIDE]
    while level:
        behind = []
        for source, found, _, target in classes.ways:
            if source in level and found & met[source] and depth[target] is None:
                depth[target] = depth[source] + 1
                behind.append(target)
        level = behind
    return depth


def least_of(classes, hands):
    """The first one of the shortest wrong weavings of at most so many different hands, or None."""
    search = Search(classes, hands)
    left = search.run()
    if left is None:
        return None
    standing = beginning(classes.net.for_rules)
    inside = [None] * hands
    events = []
    while left > 1:
        left = left - 1
        event, standing, inside = first_event(classes, search, standing, inside, left)
        events.append(event)
    numbers = [classes.number(state) for state in inside]
    events.append((numbers.index(WRONG),))
    return events


def least_with(net, fewest, most):
    """The least wrong weaving, if it has from fewest to most different hands; else None."""
    classes = Classes(net)
    for hands in range(fewest, most + 1):
        weaving = least_of(classes, hands)
        if weaving is not None:
            return weaving
    return None


def first_event(classes, search, standing, inside, left):
    """The first event, as Python orders them, behind which so many are left: a tuple with what is behind it."""
    for event, after, states in next_events(classes, standing, inside):
        numbers = [classes.number(state) for state in states]
        if search.reaches(classes.one(after), numbers, left):
            return event, after, states
    return None


def next_events(classes, standing, inside):
    """The ascending list of events of which one must be next, each in a tuple with what is behind it.

    Hands that are outside are all alike, so of them only the first one is asked.
    """
    rules = classes.net.for_rules
    found = []
    for hand, state in enumerate(inside):
        if state is not None:
            after, behind = stepped(rules, standing, state)
            found.append(((hand,), after, [*inside[:hand], behind, *inside[hand + 1:]]))
        elif hand == inside.index(None):
            for came in arrivals(rules, classes.net.for_shapes, standing):
                event = (hand, came[0], came[2])
                found.append((event, standing, [*inside[:hand], came, *inside[hand + 1:]]))
    return found
