"""The least weavings of few hands, searched from what goes wrong back to the beginning.

A need is an ascending tuple of classes of states, with a set of standings: so many hands in these states, others
beside them, go wrong by some more events. Classes hold states that no move tells apart.
"""

from heapq import heappop, heappush

from warmsteps.nets import OUTSIDE, UNCHANGED, meetings
from warmsteps.steps import KEY, NOTE

WRONG = 1


class Classes:
    """The classes of the states of a net, OUTSIDE and WRONG and others, and what moves do with them.

    A half of the standing on which nothing depends is always as in the beginning here.
    """

    def __init__(self, net):
        self.net = net
        self._many = net.gather()
        self._idle = {KEY: True, NOTE: True}
        used = self._settle()
        while used:
            self._idle = {part: True for part in self._idle if part not in used}
            used = self._settle()
        self.many = len(self._signs)
        found = {}
        for number, own in enumerate(self._of):
            for change, target, doing in self._ways_of(number):
                found[(own, change, target)] = doing
        self.ways = [(own, found[(own, change, target)], change, target) for own, change, target in found]

    def number_of(self, number):
        """The class of a state of the net."""
        return self._of[number]

    def one(self, one):
        """The set of one standing, as it counts here."""
        for part in self._idle:
            one = self.net.standings.behind(one, self.net.standings.change(part, 0))
        return one

    def _settle(self):
        """Find the classes; give the idle halves on which something depends then."""
        self._of = [None] * self._many
        self._of[OUTSIDE] = OUTSIDE
        self._signs = {(): OUTSIDE, (WRONG,): WRONG}
        used = {}
        for number in range(1, self._many):
            self._find(number)
            part = self.net.asked(number)
            if part in self._idle and part not in used and len(self._ways_of(number)) > 1:
                used[part] = True
        return used

    def _find(self, number):
        """Find the class of a state: those alike are in one that do the same, and then are in the same classes.

        No hand comes back to a state but from outside, so that what is behind a state can be found first.
        """
        if self._of[number] is None:
            if self.net.goes_wrong(number):
                self._of[number] = WRONG
            else:
                for _, target in self.net.ways_of(number):
                    self._find(target)
                sign = tuple(sorted(self._ways_of(number)))
                self._of[number] = self._signs.setdefault(sign, len(self._signs))

    def _ways_of(self, number):
        """The list of different tuples (change, class behind, standings in which a move does this)."""
        ways = self.net.ways_of(number)
        found = {}
        for change, target in ways:
            is_idle = change != UNCHANGED and self.net.standings.part(change) in self._idle
            key = (UNCHANGED if is_idle else change, self._of[target])
            found[key] = found.get(key, 0) | ways[(change, target)]
        return [(change, target, found[(change, target)]) for change, target in found]


class Search:
    """Goes back from what goes wrong, for weavings of at most so many hands, the shorter ones first."""

    def __init__(self, classes, hands):
        self._standings = classes.net.standings
        self._start = classes.net.start
        self._hands = hands
        self._met = meetings(self._standings, self._start, classes.ways, classes.many)
        self._depth = depths(classes, self._met)
        # By class: the tuples of a class from which a hand comes to it, the standings in which it does, and how to find
        # what they are ahead of this, as Standings.ahead_of tells.
        self._moves_to = [[] for _ in range(classes.many)]
        writers = {}
        # By class: the classes from which a hand comes to it by a move that depends on nothing and writes nothing.
        self._freely_from = [[] for _ in range(classes.many)]
        for source, found, change, target in classes.ways:
            doing = found & self._met[source]
            if doing:
                self._moves_to[target].append((source, doing, *self._standings.ahead_of(change)))
            if doing and change != UNCHANGED:
                writers.setdefault((doing, *self._standings.ahead_of(change)), []).append(source)
            if doing and change == UNCHANGED and found == self._standings.whole and source != OUTSIDE:
                self._freely_from[target].append(source)
        # Tuples of such standings, and so on, and the classes from which a hand changes them so.
        self._writers = [(*writer, writers[writer]) for writer in writers]
        # By class: how many free moves are next.
        self._free = free_moves(self._freely_from)
        # By class: whether hands come to it by such moves only. The last one of these can stand behind what others do
        # meanwhile, so such classes stand in no need: they are taken back at once.
        self._late = [number != OUTSIDE and len(self._freely_from[number]) == len(self._moves_to[number])
                      for number in range(classes.many)]
        # By need: the list of tuples (events left, standings), those with the fewest events first.
        self._found = {}
        self._facts = {}
        # By need: what is found of its parts, and by how many moves they must be ahead.
        self._parts = {}
        # By (least number of all events, events left): the dict from needs to standings that are still to be judged.
        self._agenda = {}
        self._queue = []

    def run(self):
        """The number of events of the shortest wrong weavings, or None."""
        shortest = None
        if self._depth[WRONG] is not None:
            self._put((WRONG,), self._standings.whole, 1)
        while self._queue:
            key = heappop(self._queue)
            if shortest is not None and key[0] > shortest:
                break
            needs = self._agenda.pop(key)
            for need in needs:
                new = needs[need] & ~self._found_within(need, key[1])
                if new:
                    self._found[need].append((key[1], new))
                    if new & self._start and need[-1] == OUTSIDE and shortest is None:
                        shortest = key[1]
                    self._go_back(need, new, key[1])
        return shortest

    def reaches(self, one, inside, left):
        """Whether hands in these classes, all there are, go wrong by at most so many events from one standing.

        Some may be ahead of what is needed by free moves: these are done already.
        """
        parts = [((OUTSIDE,) * many, 0) for many in range(inside.count(OUTSIDE) + 1)]
        for number in inside:
            if number != OUTSIDE:
                ahead = self._ahead_of(number)
                parts = parts + [((*part, source), saved + moves) for part, saved in parts for source, moves in ahead]
        # Most of what is inside is needed, so the parts with many hands are looked up first.
        for part, saved in parts[::-1]:
            for events, found in self._found.get(tuple(sorted(part)), ()):
                if found & one and events <= left + saved:
                    return True
        return False

    def _ahead_of(self, number):
        """The list of tuples of a class from which a hand comes freely to this one, and by how many moves."""
        found = [(number, 0)]
        for source in self._freely_from[number]:
            found.extend([(other, moves + 1) for other, moves in self._ahead_of(source)])
        return found

    def _found_within(self, need, left):
        """The standings of which it is found that they need no more than this, and so many events.

        A hand that is not needed might be ahead by its next free moves, so these must be won by doing without it.
        """
        known = 0
        if need not in self._parts:
            self._parts[need] = self._parts_of(need)
        for part, saved in self._parts[need]:
            for events, found in part:
                if events <= left - saved:
                    known = known | found
        return known

    def _parts_of(self, need):
        """What is found of each part of a need that is not empty, with the free moves of those left out."""
        parts = [((), 0)]
        for number in need:
            kept = [((*part, number), saved) for part, saved in parts]
            parts = [(part, saved + self._free[number]) for part, saved in parts] + kept
        return [(self._found.setdefault(part, []), saved) for part, saved in parts[1:]]

    def _put(self, need, found, left):
        """Take what goes wrong by so many events, or what leads to it by moves that can be the last ones."""
        if need not in self._facts:
            self._facts[need] = self._facts_of(need)
        met, late, depth = self._facts[need]
        found = found & met
        if not found:
            return
        if late is not None:
            self._go_back_by(need, late, found, left)
            return
        key = (left + depth, left)
        if key not in self._agenda:
            self._agenda[key] = {}
            heappush(self._queue, key)
        needs = self._agenda[key]
        needs[need] = needs.get(need, 0) | found

    def _facts_of(self, need):
        """The standings in which a need can be met, the place of what is late in it, or None, and its depth."""
        met = self._standings.whole
        late = None
        depth = 0
        for at, number in enumerate(need):
            met = met & self._met[number]
            late = at if late is None and self._late[number] else late
            # What is never come to stands in no standing, either.
            depth = depth + (self._depth[number] or 0)
        return met, late, depth

    def _go_back(self, need, found, left):
        """Put what leads to this by one event, by a hand that is needed for it or by another one."""
        for at, number in enumerate(need):
            if at == 0 or number != need[at - 1]:
                self._go_back_by(need, at, found, left)
        if len(need) < self._hands:
            unknown = ~self._found_within(need, left + 1)
            for doing, having, shift, spread, sources in self._writers:
                ahead = ((found & having) >> shift) * spread & doing & unknown
                if ahead:
                    for source in sources:
                        self._put(tuple(sorted((*need, source))), ahead, left + 1)

    def _go_back_by(self, need, at, found, left):
        others = need[:at] + need[at + 1:]
        for source, doing, having, shift, spread in self._moves_to[need[at]]:
            ahead = ((found & having) >> shift) * spread & doing
            if ahead:
                self._put(tuple(sorted((*others, source))), ahead, left + 1)


def free_moves(freely_from):
    """By class, how many moves that depend on nothing and write nothing a hand does next, one after the other."""
    free = [0] * len(freely_from)
    before = []
    while free != before:
        before = list(free)
        for target, sources in enumerate(freely_from):
            for source in sources:
                free[source] = 1 + free[target]
    return free


def depths(classes, met):
    """By class, the fewest events by which a hand from outside comes to it, None if it never does."""
    depth = [None] * classes.many
    depth[OUTSIDE] = 0
    level = [OUTSIDE]
    while level:
        behind = []
        for source, found, _, target in classes.ways:
            if source in level and found & met[source] and depth[target] is None:
                depth[target] = depth[source] + 1
                behind.append(target)
        level = behind
    return depth


def least_of(classes, hands):
    """The first one of the shortest wrong weavings of at most so many different hands, or None."""
    search = Search(classes, hands)
    left = search.run()
    if left is None:
        return None
    one = classes.net.start
    inside = [OUTSIDE] * hands
    events = []
    while left > 1:
        left = left - 1
        event, one, inside = first_event(classes, search, one, inside, left)
        events.append(event)
    numbers = [classes.number_of(number) for number in inside]
    events.append((numbers.index(WRONG),))
    return events


def first_event(classes, search, one, inside, left):
    """The first event, as Python orders them, behind which so many are left: a tuple with what is behind it."""
    found = next_events(classes.net, one, inside)
    for event, after, numbers in found[:-1]:
        if search.reaches(classes.one(after), [classes.number_of(number) for number in numbers], left):
            return event, after, numbers
    # There is one, so it is the last one where it is none of the others.
    return found[-1]


def next_events(net, one, inside):
    """The ascending list of events of which one must be next, each in a tuple with what is behind it.

    Hands that are outside are all alike, so of them only the first one is asked.
    """
    found = []
    for hand, number in enumerate(inside):
        if number != OUTSIDE or hand == inside.index(OUTSIDE):
            for after, target in net.next_moves(one, number):
                event = (hand,) if number != OUTSIDE else net.coming(hand, target)
                found.append((event, after, [*inside[:hand], target, *inside[hand + 1:]]))
    return found
