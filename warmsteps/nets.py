"""States of hands by numbers and sets of standings by bits, for what goes through all of them."""

from warmsteps.forms import ACTS, CHECKS, cells_of, looks, other_of
from warmsteps.steps import KEY, NOTE, beginning

OUTSIDE = 0
UNCHANGED = 0
# Integers with more bits than this are not built.
WIDEST = 2048


class Standings:
    """The standings of a site; a set of them is an integer with a bit for each.

    A change of one part of a standing has a number, UNCHANGED or one of change().
    """

    def __init__(self, rules, shapes):
        halves = list(range(shapes + 1)) if looks(rules.pattern) else [0]
        second = rules.words(2) if len(rules.pattern) == 2 else [""]
        self.parts = [rules.words(1), second, halves, halves]
        many = len(self.parts[0]) * len(second) * len(halves) * len(halves)
        self.whole = (1 << many) - 1
        self._changes = {}
        # By the number of a change: the part, the standings that have its worth, and how much higher their bits are
        # than those of the same standings with the first worth.
        self._part = [0]
        self._having = [0]
        self._shift = [0]
        # By part: the bits of the standings that differ from the first one in this part alone, and its changes.
        self._spread = []
        self._alike = []
        step = 1
        for part, worths in enumerate(self.parts):
            first = repeated((1 << step) - 1, step * len(worths), many)
            for at, worth in enumerate(worths):
                self._changes[(part, worth)] = len(self._part)
                self._part.append(part)
                self._having.append(first << (at * step))
                self._shift.append(at * step)
            self._alike.append([self._changes[(part, worth)] for worth in worths])
            step = step * len(worths)
            self._spread.append(repeated(1, step // len(worths), step))

    def change(self, part, worth):
        """The number of the change that gives a part this worth."""
        return self._changes[(part, worth)]

    def part(self, change):
        """The part that a change changes."""
        return self._part[change]

    def having(self, part, worth):
        """The set of the standings that have this worth in this part."""
        return self._having[self._changes[(part, worth)]]

    def one(self, standing):
        """The set of one standing."""
        return 1 << sum([self._shift[self._changes[(part, worth)]] for part, worth in enumerate(standing)])

    def told(self, one):
        """The standing in a set of one."""
        number = one.bit_length() - 1
        standing = []
        for worths in self.parts:
            standing.append(worths[number % len(worths)])
            number = number // len(worths)
        return tuple(standing)

    def ahead_of(self, change):
        """How to find what is in a set when it is changed so: ((set & having) >> shift) * spread of the tuple told."""
        if change == UNCHANGED:
            return self.whole, 0, 1
        return self._having[change], self._shift[change], self._spread[self._part[change]]

    def behind(self, found, change, every=1):
        """What the standings of the set are when they are changed so; or of many sets side by side, by every."""
        if change == UNCHANGED:
            return found
        low = 0
        for other in self._alike[self._part[change]]:
            low = low | ((found & (self._having[other] * every)) >> self._shift[other])
        return low << self._shift[change]


def repeated(bits, every, many):
    """The bits, and again so many places higher, and so on, below many."""
    found = 0
    for at in range(0, many, every):
        found = found | (bits << at)
    return found


class Net:
    """The states of hands by numbers, OUTSIDE for those outside, and what their next moves do.

    A rest of a course has a number, too, so that what is equal need be found out once for each rest. Of the cells
    that a hand owes, it is told how many are done.
    """

    def __init__(self, rules, shapes):
        self.for_rules = rules
        self.for_shapes = shapes
        self.standings = Standings(rules, shapes)
        self.start = self.standings.one(beginning(rules))
        # The states whose next moves go wrong, as bits.
        self.wrong_ones = 0
        self._cells = cells_of(rules.pattern)
        self._courses = rules.courses
        self._rest_numbers = {}
        # By rest: the tuple (cell, rest, number of the rest behind its first move, number of its other course).
        self._rests = []
        self._numbers = {}
        # By state: the tuple (rest, own, read, how many cells are done).
        self._parts = [None]
        self._ways = [None]
        self._next = {}

    def number_of(self, state):
        """The number of a state; one that was not asked for yet gets the next one."""
        cell, rest, own, read, owed = state
        return self._numbered(self._rest(cell, rest), own, read, len(self._cells) - len(owed))

    def told(self, number):
        """The state of this number, None for OUTSIDE."""
        if number == OUTSIDE:
            return None
        rest, own, read, done = self._parts[number]
        return (self._rests[rest][0], self._rests[rest][1], own, read, self._cells[done:])

    def how_many(self):
        """How many states have a number."""
        return len(self._parts)

    def turned(self, number, turn):
        """The number of the state with its shapes exchanged for others; turn is a tuple from shapes to shapes."""
        if number == OUTSIDE:
            return OUTSIDE
        rest, own, read, done = self._parts[number]
        return self._numbered(rest, turn[own], turn[read], done)

    def shapes_in(self, number):
        """The tuple of own shape and shape read of a state."""
        return (0, 0) if number == OUTSIDE else self._parts[number][1:3]

    def coming(self, hand, number):
        """The event by which a hand from outside comes to be in this state."""
        return (hand, self._rests[self._parts[number][0]][0], self._parts[number][1])

    def goes_wrong(self, number):
        """Whether the next move of a hand in this state goes wrong."""
        return self.wrong_ones >> number & 1 == 1

    def asked(self, number):
        """The part of the standing on which the next move of a hand in this state depends, or None."""
        if self.goes_wrong(number):
            return None
        rest = self._rests[self._parts[number][0]][1]
        return asked_part(rest)

    def claims(self, number):
        """Whether the next move of a hand in this state is a claim."""
        if number == OUTSIDE:
            return False
        rest = self._rests[self._parts[number][0]][1]
        return rest != () and rest[0][0] == "claim"

    def claimed(self):
        """The list of the states behind claims that held and changed the standing."""
        found = {}
        for number, _, change, target in self.all_ways():
            if change != UNCHANGED and self.claims(number):
                found[target] = True
        return list(found)

    def ways_of(self, number):
        """What a next move can do: a dict from tuples (change, state behind) to the standings in which it does this."""
        if self._ways[number] is None:
            if number == OUTSIDE:
                self._ways[number] = self._coming()
            elif self.goes_wrong(number):
                self._ways[number] = {}
            else:
                self._ways[number] = self._moving(number)
        return self._ways[number]

    def gather(self):
        """Number all states that a hand can come to, whatever others do; tell how many there are."""
        number = 0
        while number < len(self._parts):
            self.ways_of(number)
            number += 1
        return number

    def all_ways(self):
        """The list of all ways, each a tuple (state, standings in which a move does this, change, state behind)."""
        found = []
        for number in range(len(self._parts)):
            ways = self.ways_of(number)
            found.extend([(number, ways[(change, target)], change, target) for change, target in ways])
        return found

    def next_moves(self, one, number):
        """What a next move does in one standing: the list of tuples (one standing behind, state behind)."""
        key = (one, number)
        if key not in self._next:
            ways = self.ways_of(number)
            self._next[key] = [(self.standings.behind(one, change), target)
                                for change, target in ways if ways[(change, target)] & one]
        return self._next[key]

    def _rest(self, cell, rest):
        """The number of a rest, with numbers for those that can be behind its first move."""
        key = (cell, rest)
        if key not in self._rest_numbers:
            after = self._rest(cell, rest[1:]) if len(rest) > 1 else None
            other = other_of(rest[0]) if rest else ()
            behind = self._rest(cell, other) if other else None
            self._rest_numbers[key] = len(self._rests)
            self._rests.append((cell, rest, after, behind))
        return self._rest_numbers[key]

    def _numbered(self, rest, own, read, done):
        key = (rest, own, read, done)
        if key not in self._numbers:
            number = len(self._parts)
            self._numbers[key] = number
            self._parts.append(key)
            self._ways.append(None)
            if self._is_wrong(self._rests[rest][1], own, read, done):
                self.wrong_ones = self.wrong_ones | (1 << number)
        return self._numbers[key]

    def _is_wrong(self, rest, own, read, done):
        name = rest[0][0] if rest else ""
        if name == "do":
            return done != rest[0][1] - 1
        if name == "trust":
            return done != 0 or read != own
        return name == "out" and done != len(self._cells)

    def _coming(self):
        ways = {}
        shapes = list(range(1, self.for_shapes + 1)) if looks(self.for_rules.pattern) else [0]
        cells = self._cells[:1] if self.for_rules.closed else self._cells
        for cell in cells:
            owns = shapes if cell == 1 else [0]
            for word in self.standings.parts[cell - 1]:
                rest = self._rest(cell, self._courses[(cell, word)])
                for own in owns:
                    key = (UNCHANGED, self._numbered(rest, own, 0, cell - 1))
                    ways[key] = ways.get(key, 0) | self.standings.having(cell - 1, word)
        return ways

    def _moving(self, number):
        rest, own, read, done = self._parts[number]
        cell, moves, after, other = self._rests[rest]
        if not moves:
            return self._reading(done)
        move = moves[0]
        name = move[0]
        whole = self.standings.whole
        if name in CHECKS:
            return self._checking(move, own, self._numbered(other, own, read, done),
                                  self._numbered(after, own, read, done))
        if name == "note":
            return {(UNCHANGED, self._numbered(after, own, worth, done)): self.standings.having(NOTE, worth)
                    for worth in self.standings.parts[NOTE]}
        if name == "out":
            return {(UNCHANGED, OUTSIDE): whole}
        if name == "on":
            return {(UNCHANGED, self._numbered(self._rest(2, ()), 0, 0, done)): whole}
        if name in ACTS:
            return {(UNCHANGED, self._numbered(after, own, read, done + 1)): whole}
        return {(self._change(move, own), self._numbered(after, own, read, done)): whole}

    def _reading(self, done):
        ways = {}
        for word in self.standings.parts[1]:
            key = (UNCHANGED, self._numbered(self._rest(2, self._courses[(2, word)]), 0, 0, done))
            ways[key] = ways.get(key, 0) | self.standings.having(1, word)
        return ways

    def _checking(self, check, own, failed, held):
        part, worth = (KEY, own) if check[0] == "key" else (check[1] - 1, check[2])
        holding = self.standings.having(part, worth)
        change = UNCHANGED
        if check[0] == "claim" and check[3] != worth:
            change = self.standings.change(part, check[3])
        ways = {(change, held): holding}
        key = (UNCHANGED, failed)
        ways[key] = ways.get(key, 0) | (self.standings.whole & ~holding)
        if not ways[key]:
            del ways[key]
        return ways

    def _change(self, move, own):
        if move[0] == "word":
            return self.standings.change(move[1] - 1, move[2])
        half = KEY if move[1] == "key" else NOTE
        return self.standings.change(half, own if move[0] == "set" else 0)


def asked_part(rest):
    """The part of the standing on which the next move of a hand with this rest depends, or None."""
    if not rest:
        return 1
    if rest[0][0] in ("key", "note"):
        return KEY if rest[0][0] == "key" else NOTE
    return rest[0][1] - 1 if rest[0][0] in CHECKS else None


def meetings(standings, start, ways, many):
    """The list of the standings in which a hand can be in each state, if each hand were any number of hands.

    So it may hold more than can be, and never less. Ways are tuples (state, standings in which a move does this,
    change, state behind), and many is the number of states.
    """
    shelf = Shelf(standings, start, many)
    steps = [(*shelf.spot(source), found, change, *shelf.spot(target)) for source, found, change, target in ways]
    done = [0] * len(ways)
    grows = True
    while grows:
        has_moved = shelf.has_moved(steps, done)
        grows = shelf.has_changed() or has_moved
    return shelf.told(many)


class Shelf:
    """A set of standings for each state, side by side in integers of no more than so many bits."""

    def __init__(self, standings, start, many):
        self._standings = standings
        self._width = standings.whole.bit_length()
        self._per = max(1, WIDEST // self._width)
        self._every = repeated(1, self._width, self._per * self._width)
        self._sets = [0] * (many // self._per + 1)
        at, shift = self.spot(OUTSIDE)
        self._sets[at] = start << shift
        # By change: the standings in which a hand can do it; and by integer, of which standings that was seen to.
        self._changing = {}
        self._changed = {}

    def spot(self, number):
        """Where the set of a state is: the number of the integer, and how far its bits are shifted."""
        return number // self._per, number % self._per * self._width

    def told(self, many):
        """The list of the sets of so many states."""
        found = []
        for number in range(many):
            at, shift = self.spot(number)
            found.append(self._sets[at] >> shift & self._standings.whole)
        return found

    def has_moved(self, steps, done):
        """Do all moves once; tell whether a hand could do one in standings in which it was not done yet."""
        grows = False
        for number, (at, shift, found, change, at_target, shift_target) in enumerate(steps):
            doing = self._sets[at] >> shift & found
            if doing != done[number]:
                grows = True
                after = self._standings.behind(doing & ~done[number], change)
                self._sets[at_target] = self._sets[at_target] | (after << shift_target)
                done[number] = doing
                if change != UNCHANGED:
                    self._changing[change] = self._changing.get(change, 0) | doing
        return grows

    def has_changed(self):
        """What a hand changes, all the others find changed, too; tell whether anything was not changed so yet."""
        grows = False
        for change in self._changing:
            doing = self._changing[change] * self._every
            for at, found in enumerate(list(self._sets)):
                new = found & doing & ~self._changed.get((change, at), 0)
                if new:
                    grows = True
                    self._changed[(change, at)] = self._changed.get((change, at), 0) | new
                    self._sets[at] = found | self._standings.behind(new, change, self._every)
        return grows
