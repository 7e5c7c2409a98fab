"""States of hands by numbers and sets of standings by bits, for what goes through all of them."""

from warmsteps.errors import GoneWrong
from warmsteps.forms import CHECKS, cells_of, looks
from warmsteps.steps import KEY, NOTE, arrivals, beginning, put, stepped

OUTSIDE = 0
UNCHANGED = 0


class Standings:
    """The standings of a site; a set of them is an integer with a bit for each.

    A change of one part of a standing has a number, UNCHANGED or one of change().
    """

    def __init__(self, rules, shapes):
        halves = list(range(shapes + 1)) if looks(rules.pattern) else [0]
        second = rules.words(2) if len(rules.pattern) == 2 else [""]
        self.parts = [rules.words(1), second, halves, halves]
        many = len(self.parts[0]) * len(second) * len(halves) * len(halves)
        self.whole = (1 << many) - 1
        self._changes = {}
        # By the number of a change: the part, the standings that have its worth, and how much higher their bits are
        # than those of the same standings with the first worth.
        self._part = [0]
        self._having = [0]
        self._shift = [0]
        # By part: the bits of the standings that differ from the first one in this part alone.
        self._spread = []
        step = 1
        for part, worths in enumerate(self.parts):
            first = repeated((1 << step) - 1, step * len(worths), many)
            for at, worth in enumerate(worths):
                self._changes[(part, worth)] = len(self._part)
                self._part.append(part)
                self._having.append(first << (at * step))
                self._shift.append(at * step)
            step = step * len(worths)
            self._spread.append(repeated(1, step // len(worths), step))

    def change(self, part, worth):
        """The number of the change that gives a part this worth."""
        return self._changes[(part, worth)]

    def part(self, change):
        """The part that a change changes."""
        return self._part[change]

    def having(self, part, worth):
        """The set of the standings that have this worth in this part."""
        return self._having[self._changes[(part, worth)]]

    def one(self, standing):
        """The set of one standing."""
        return 1 << sum([self._shift[self._changes[(part, worth)]] for part, worth in enumerate(standing)])

    def told(self, one):
        """The standing in a set of one."""
        number = one.bit_length() - 1
        standing = []
        for worths in self.parts:
            standing.append(worths[number % len(worths)])
            number = number // len(worths)
        return tuple(standing)

    def ahead(self, found, change):
        """All standings that are in the set when they are changed so."""
        if change == UNCHANGED:
            return found
        return ((found & self._having[change]) >> self._shift[change]) * self._spread[self._part[change]]

    def behind(self, found, change):
        """What the standings of the set are when they are changed so."""
        if change == UNCHANGED:
            return found
        part = self._part[change]
        low = 0
        for worth in self.parts[part]:
            other = self._changes[(part, worth)]
            low = low | ((found & self._having[other]) >> self._shift[other])
        return low << self._shift[change]


def repeated(bits, every, many):
    """The bits, and again so many places higher, and so on, below many."""
    found = 0
    for at in range(0, many, every):
        found = found | (bits << at)
    return found


class Net:
    """The states of hands by numbers, OUTSIDE for those outside, and what their next moves do."""

    def __init__(self, rules, shapes):
        self.for_rules = rules
        self.for_shapes = shapes
        self.standings = Standings(rules, shapes)
        self.start = self.standings.one(beginning(rules))
        self.states = [None]
        self._numbers = {}
        self._wrong = [False]
        self._ways = [None]
        self._next = {}

    def number(self, state):
        """The number of a state; one that was not asked for yet gets the next one."""
        if state is None:
            return OUTSIDE
        if state not in self._numbers:
            self._numbers[state] = len(self.states)
            self.states.append(state)
            self._wrong.append(goes_wrong(self.for_rules, state))
            self._ways.append(None)
        return self._numbers[state]

    def goes_wrong(self, number):
        """Whether the next move of a hand in this state goes wrong."""
        return self._wrong[number]

    def asked(self, number):
        """The part of the standing on which the next move of a hand in this state depends, or None."""
        return None if self._wrong[number] else asked_part(self.states[number])

    def claims(self, number):
        """Whether the next move of a hand in this state is a claim."""
        rest = self.states[number][1]
        return rest != () and rest[0][0] == "claim"

    def claimed(self):
        """The list of the states behind claims that held and changed the standing."""
        found = {}
        for number, _, change, target in self.all_ways():
            if change != UNCHANGED and self.claims(number):
                found[target] = True
        return list(found)

    def ways(self, number):
        """What a next move can do: a dict from tuples (change, state behind) to the standings in which it does this."""
        if self._ways[number] is None:
            ways = {}
            moves = self._coming() if number == OUTSIDE else self._moving(number)
            for found, change, state in moves:
                key = (change, self.number(state))
                ways[key] = ways.get(key, 0) | found
            self._ways[number] = ways
        return self._ways[number]

    def _coming(self):
        found = []
        base = beginning(self.for_rules)
        for cell in cells_of(self.for_rules.pattern):
            for word in self.for_rules.words(cell):
                for state in arrivals(self.for_rules, self.for_shapes, put(base, cell - 1, word)):
                    if state[0] == cell:
                        found.append((self.standings.having(cell - 1, word), UNCHANGED, state))
        return found

    def _moving(self, number):
        if self._wrong[number]:
            return []
        state = self.states[number]
        base = beginning(self.for_rules)
        part = asked_part(state)
        if part is None:
            after, behind = stepped(self.for_rules, base, state)
            return [(self.standings.whole, self._change(state, base, after), behind)]
        found = []
        for worth in self.standings.parts[part]:
            standing = put(base, part, worth)
            after, behind = stepped(self.for_rules, standing, state)
            found.append((self.standings.having(part, worth), self._change(state, standing, after), behind))
        return found

    def _change(self, state, standing, after):
        part = written_part(state)
        if part is None or (after == standing and state[1][0][0] in CHECKS):
            return UNCHANGED
        return self.standings.change(part, after[part])

    def gather(self):
        """Number all states that a hand can come to, whatever others do; tell how many there are."""
        number = 0
        while number < len(self.states):
            self.ways(number)
            number += 1
        return number

    def all_ways(self):
        """The list of all ways, each a tuple (state, standings in which a move does this, change, state behind)."""
        found = []
        for number in range(len(self.states)):
            ways = self.ways(number)
            found.extend([(number, ways[(change, target)], change, target) for change, target in ways])
        return found

    def next_moves(self, one, number):
        """What a next move does in one standing: the list of tuples (one standing behind, state behind)."""
        key = (one, number)
        if key not in self._next:
            ways = self.ways(number)
            self._next[key] = [(self.standings.behind(one, change), target)
                                for change, target in ways if ways[(change, target)] & one]
        return self._next[key]


def goes_wrong(rules, state):
    """Whether the next move of a hand in this state goes wrong; that is so in all standings or in none."""
    try:
        stepped(rules, beginning(rules), state)
    except GoneWrong:
        return True
    return False


def asked_part(state):
    """The part of the standing on which the next move depends, or None."""
    if not state[1]:
        return 1
    move = state[1][0]
    if move[0] in ("key", "note"):
        return KEY if move[0] == "key" else NOTE
    return move[1] - 1 if move[0] in CHECKS else None


def written_part(state):
    """The part of the standing that the next move may write, or None."""
    if not state[1]:
        return None
    move = state[1][0]
    if move[0] in ("set", "wipe"):
        return KEY if move[1] == "key" else NOTE
    return move[1] - 1 if move[0] in ("word", "claim") else None


def meetings(standings, start, ways, many):
    """The list of the standings in which a hand can be in each state, if each hand were any number of hands.

    So it may hold more than can be, and never less. Ways are tuples (state, standings in which a move does this,
    change, state behind), and many is the number of states.
    """
    met = [0] * many
    met[OUTSIDE] = start
    before = []
    while met != before:
        before = list(met)
        changing = {}
        for source, found, change, target in ways:
            doing = met[source] & found
            met[target] = met[target] | standings.behind(doing, change)
            changing[change] = changing.get(change, 0) | doing
        for change in changing:
            for number in range(many):
                met[number] = met[number] | standings.behind(met[number] & changing[change], change)
    return met
