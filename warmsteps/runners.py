"""Hands of a machine, and what a move in a course does with one of them."""

from warmsteps.forms import CHECKS, ENDS, other_of
from warmsteps.programs import looked, plain_step
from warmsteps.steps import KEY, NOTE, put


class Hand:
    """A hand of a machine; it never changes.

    Bare is the tuple (place, stack, how many inputs are taken), and stop how it has ended, or None. Site is the place
    of the site in which the hand is, or None. Rest are the moves of its course that are left, () behind "on". Own is
    its shape, and read the place that it has read, or None.
    """

    def __init__(self, bare, stop, site, rest, own, read):
        self.bare = bare
        self.stop = stop
        self.site = site
        self.rest = rest
        self.own = own
        self.read = read


class Deed:
    """What a move does: the hand behind it, the standing of its site, None if it is at none, and what is known of it.

    Entry is what stands in the diary, or None. Event is (cell, own shape or None) for a hand that comes, () for one
    that moves in a site, or None.
    """

    def __init__(self, hand, stands, entry, event):
        self.hand = hand
        self.stands = stands
        self.entry = entry
        self.event = event


def outside(plain, end):
    """A hand that is in no site."""
    return Hand(plain, end, None, (), None, None)


def ended(hand, end):
    """A hand that ends where it is."""
    return Hand(hand.bare, end, hand.site, (), hand.own, hand.read)


def left(hand, rest):
    """A hand with these moves of its course left."""
    return Hand(hand.bare, None, hand.site, rest, hand.own, hand.read)


def moved(program, inputs, rules, standing, hand):
    """The deed of a hand in a site, of these rules, that stands so."""
    if not hand.rest:
        rest = rules.course(2, standing[1])
        return Deed(left(hand, rest), standing, None, ())
    move = hand.rest[0]
    name = move[0]
    behind = left(hand, hand.rest[1:])
    if name in CHECKS:
        return checked(standing, hand, move, behind)
    if name in ENDS:
        return left_off(program, rules, standing, hand, name)
    if name == "note":
        behind.read = standing[NOTE]
        return Deed(behind, standing, None, ())
    if name in ("do", "trust"):
        return acted(program, inputs, standing, hand, move)
    return Deed(behind, written(program, standing, hand, move), None, ())


def checked(standing, hand, check, behind):
    """The deed of a check."""
    part, worth = (KEY, hand.own) if check[0] == "key" else (check[1] - 1, check[2])
    if standing[part] != worth:
        return Deed(left(hand, other_of(check)), standing, None, ())
    if check[0] == "claim":
        standing = put(standing, part, check[3])
    return Deed(behind, standing, None, ())


def left_off(program, rules, standing, hand, name):
    """The deed of an end of a course."""
    _, stack, taken = hand.bare
    if name == "on":
        behind = Hand((hand.site + 1, stack, taken), None, hand.site, (), None, None)
        return Deed(behind, standing, None, ())
    place = hand.site + len(rules.pattern)
    end = "over" if place == len(program) else None
    return Deed(outside((place, stack, taken), end), standing, None, ())


def acted(program, inputs, standing, hand, act):
    """The deed of an act, which is done at the place of its cell."""
    place = hand.site if act[0] == "trust" else hand.site + act[1] - 1
    if act[0] == "trust":
        end, plain, worth = looked(hand.bare[1], hand.read, place, hand.bare)
    else:
        end, plain, worth = plain_step(program, inputs, place, hand.bare)
    if end is not None:
        return Deed(ended(hand, end), standing, None, ())
    behind = left(hand, hand.rest[1:])
    behind.bare = (hand.bare[0], plain[1], plain[2])
    return Deed(behind, standing, (place, worth), ())


def written(program, standing, hand, move):
    """The standing behind a move that writes."""
    if move[0] == "word":
        return put(standing, move[1] - 1, move[2])
    if move[0] == "wipe":
        return put(standing, KEY if move[1] == "key" else NOTE, None)
    if move[1] == "key":
        return put(standing, KEY, hand.own)
    return put(standing, NOTE, hand.own.index(program[hand.site][1]))
