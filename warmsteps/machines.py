"""Stage 10: a machine that runs a program by rules, move by move."""

from warmsteps.errors import BadEvent, BadHand, BadInputs, BadPlacement, Ended, NoSite, TooFar, WarmError
from warmsteps.forms import is_integer, looks
from warmsteps.programs import end_at, is_site, is_value, need_program, place_in, plain_step, run
from warmsteps.rules import Rules
from warmsteps.runners import Deed, Hand, ended, moved, outside

MOST_HANDS = 20


class Machine:
    """Hands that do a program, each with its own inputs, and sites that they have in common."""

    def __init__(self, program, placements, inputs):
        need_program(program)
        self._program = tuple(program)
        # By the place of a cell: the place of its site and the number of the cell.
        self._cells = {}
        self._rules = {}
        for number, placement in enumerate(placements):
            self._place(number, placement)
        wrong = first_wrong_inputs(inputs)
        if wrong is not None:
            raise BadInputs(wrong)
        self._inputs = [tuple(values) for values in inputs]
        self._stands = {site: standing_first(self._rules[site]) for site in self._rules}
        self._hands = [outside((0, (), 0), None) for _ in inputs]
        self._diaries = [[] for _ in inputs]
        # Of each move: the number of the hand, the hand ahead of it, the site or None, its standing ahead of it,
        # whether it stands in the diary, and the event at the site.
        self._done = []

    def _place(self, number, placement):
        """Take a placement; raise BadPlacement if it is none."""
        if not isinstance(placement, tuple) or len(placement) != 2 or not isinstance(placement[1], Rules):
            raise BadPlacement(number)
        site, rules = placement
        if not is_integer(site) or not 0 <= site < len(self._program) or not is_site(self._program, rules, site):
            raise BadPlacement(number)
        for at in range(len(rules.pattern)):
            if site + at in self._cells:
                raise BadPlacement(number)
        for at in range(len(rules.pattern)):
            self._cells[site + at] = (site, at + 1)
        self._rules[site] = rules

    def move(self, hand):
        """A hand does its next move."""
        self._need_hand(hand)
        known = self._hands[hand]
        if known.stop is not None:
            raise Ended(hand)
        site = self._site_of(known)
        if site is None:
            deed = self._done_plainly(hand)
        elif known.site is None:
            deed = self._come(hand, site)
        else:
            deed = moved(self._program, self._inputs[hand], self._rules[site], self._stands[site], known)
        standing = None if site is None else self._stands[site]
        self._done.append((hand, known, site, standing, deed.entry is not None, deed.event))
        self._hands[hand] = deed.hand
        if site is not None:
            self._stands[site] = deed.stands
        if deed.entry is not None:
            self._diaries[hand].append(deed.entry)

    def play(self, hands):
        """Move these hands one after the other, or none of them."""
        ahead = len(self._done)
        for number, hand in enumerate(hands):
            if not self._has_moved(hand):
                self.undo(len(self._done) - ahead)
                raise BadEvent(number)

    def diary(self, hand):
        """The diary of a hand."""
        self._need_hand(hand)
        return list(self._diaries[hand])

    def told(self, hand):
        """The list of what a hand has told."""
        self._need_hand(hand)
        return [worth for place, worth in self._diaries[hand] if self._program[place] == ("tell",)]

    def end(self, hand):
        """How a hand has ended, or None."""
        self._need_hand(hand)
        return self._hands[hand].stop

    def at(self, hand):
        """The tuple of the place of a hand and the moves of the course in which it is."""
        self._need_hand(hand)
        return self._hands[hand].bare[0], self._hands[hand].rest

    def stand(self, site):
        """The standing of a site."""
        self._need_site(site)
        return self._stands[site]

    def moves(self):
        """The list of the hands of all moves."""
        return [done[0] for done in self._done]

    def undo(self, many):
        """Take so many of the last moves back."""
        if not is_integer(many) or not 0 <= many <= len(self._done):
            raise TooFar(len(self._done))
        for _ in range(many):
            hand, known, site, standing, is_told = self._done.pop()[:5]
            self._hands[hand] = known
            if site is not None:
                self._stands[site] = standing
            if is_told:
                self._diaries[hand].pop()

    def fork(self):
        """A machine that stands the same, with the same moves behind it, and goes its own way."""
        placements = [(site, self._rules[site]) for site in self._rules]
        machine = Machine(self._program, placements, self._inputs)
        machine._stands = {site: self._stands[site] for site in self._stands}
        machine._hands = list(self._hands)
        machine._diaries = [list(diary) for diary in self._diaries]
        machine._done = list(self._done)
        return machine

    def is_right(self):
        """Whether each hand did what it does alone on the plain machine."""
        return all([self._is_hand_right(hand) for hand in range(len(self._hands))])

    def happened(self, site):
        """The list of what happened at a site: tuples (hand, cell, own shape or None), or (hand,) for other moves."""
        self._need_site(site)
        return [(done[0], *done[5]) for done in self._done if done[2] == site and done[5] is not None]

    def __len__(self):
        return len(self._done)

    def __eq__(self, other):
        return (isinstance(other, Machine) and self._program == other._program and self._rules == other._rules
                and self._inputs == other._inputs
                and [done[0] for done in self._done] == [done[0] for done in other._done])

    def _need_hand(self, hand):
        if not is_integer(hand) or not 0 <= hand < len(self._hands):
            raise BadHand(hand)

    def _need_site(self, site):
        if not is_integer(site) or site not in self._rules:
            raise NoSite(site)

    def _site_of(self, known):
        """The site at which the next move of a hand is, or None."""
        if known.site is not None:
            return known.site
        site, cell = self._cells.get(known.bare[0], (None, 0))
        return None if site is None or (cell == 2 and self._rules[site].closed) else site

    def _done_plainly(self, hand):
        """The deed of a step at the place of a hand."""
        known = self._hands[hand]
        place = known.bare[0]
        end, plain, worth = plain_step(self._program, self._inputs[hand], place, known.bare)
        if end is not None:
            return Deed(ended(known, end), None, None, None)
        return Deed(outside(plain, end_at(self._program, plain[0])), None, (place, worth), None)

    def _come(self, hand, site):
        """The deed of a hand that comes to a site, or that is faulted instead."""
        known = self._hands[hand]
        standing = self._stands[site]
        rules = self._rules[site]
        cell = known.bare[0] - site + 1
        own = None
        if cell == 1 and looks(rules.pattern):
            stack = known.bare[1]
            if place_in(self._program[site][1], stack) is None:
                return Deed(ended(known, "faulted"), standing, None, None)
            own = stack[-1][0]
        rest = rules.course(cell, standing[cell - 1])
        return Deed(Hand(known.bare, None, site, rest, own, None), standing, None, (cell, own))

    def _has_moved(self, hand):
        """Move any value that is a hand that can; tell whether it was one."""
        try:
            self.move(hand)
        except WarmError:
            return False
        return True

    def _is_hand_right(self, hand):
        diary = self._diaries[hand]
        alone, end = run(self._program, self._inputs[hand], most=len(diary) + 1)
        if self._hands[hand].stop is not None:
            return alone == diary and end == self._hands[hand].stop
        return alone[:len(diary)] == diary


def first_wrong_inputs(value):
    """The number of the first hand whose inputs are none, of any value, or None."""
    if not isinstance(value, (list, tuple)) or not 1 <= len(value) <= MOST_HANDS:
        return 0
    for number, values in enumerate(value):
        if not isinstance(values, (list, tuple)) or not all([is_value(worth) for worth in values]):
            return number
    return None


def standing_first(rules):
    """The standing of a site of a machine in the beginning."""
    return ("plain", "plain" if len(rules.pattern) == 2 else "", None, None)
