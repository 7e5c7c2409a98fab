"""Stage 4: verdicts on rules, and what shows that they hold."""

from warmsteps.errors import BadEvent
from warmsteps.fewest import Seeker
from warmsteps.forms import need_shapes
from warmsteps.nets import OUTSIDE, Net
from warmsteps.rows import Row, Rows, numbers_in
from warmsteps.settle import MANY_EVENTS, quick, settled_by, settled_slowly
from warmsteps.sites import Site
from warmsteps.steps import are_rows

FEW = 2
MOST_HANDS = 4


def verdict(rules, shapes):
    """("right", a right list of rows), or ("wrong", a wrong weaving)."""
    need_shapes(shapes)
    return judged(Net(rules, shapes))


def judged(net):
    """As verdict, for a net of the rules."""
    flood = quick(net)
    if flood is not None:
        word, shown = settled_by(flood, MANY_EVENTS)
        if word == "right" or (shown is not None and len(hands_in(shown)) <= MOST_HANDS):
            return word, shown
    # There are many rows, or a weaving of many hands: one of few hands is shorter, and soon found, if there is one.
    weaving = Seeker(net).least(1, FEW)
    if weaving is not None:
        return "wrong", weaving
    if flood is None:
        word, shown = settled_slowly(net, MANY_EVENTS)
    if shown is None:
        shown = Seeker(net).least(FEW + 1, MOST_HANDS)
    if shown is None:
        word, shown = settled_by(flood, None) if flood is not None else settled_slowly(net, None)
    return word, shown


def hands_in(weaving):
    """The list of the different hands in a weaving."""
    return sorted(set([event[0] for event in weaving]))


def is_weaving(rules, shapes, value):
    """Whether any value is a wrong weaving, a list."""
    site = Site(rules, shapes)
    if not isinstance(value, list):
        return False
    try:
        site.play(value)
    except BadEvent:
        return False
    return site.wrong is not None


def is_rows(rules, shapes, value):
    """Whether any value is a right list of rows."""
    need_shapes(shapes)
    if not are_rows(rules, shapes, value):
        return False
    net = Net(rules, shapes)
    listed = [as_row(net, standing, many, few) for standing, many, few in value]
    rows = Rows()
    for row in listed:
        rows.add(row)
    if not rows.has_covered(as_row(net, net.standings.told(net.start), (), ())):
        return False
    for row in listed:
        if not is_closed(net, rows, row):
            return False
    return True


def as_row(net, standing, many, few):
    """A row of tuples as one of the search."""
    bits = 1 << OUTSIDE
    for state in many:
        bits = bits | (1 << net.number_of(state))
    return Row(net.standings.one(standing), bits, tuple([net.number_of(state) for state in few]), None, None)


def is_closed(net, rows, row):
    """Whether no move from this row goes wrong, and what is behind each of them is covered by one of the rows."""
    judged = {}
    for number in numbers_in(row.many):
        if not is_move_closed(net, rows, row, row.few, number, judged):
            return False
    for at, number in enumerate(row.few):
        if not is_move_closed(net, rows, row, row.few[:at] + row.few[at + 1:], number, judged):
            return False
    return True


def is_move_closed(net, rows, row, others, number, judged):
    """Whether the next move of a hand in this state, with these few others, does not go wrong and is covered."""
    if net.goes_wrong(number):
        return False
    for standing, target in net.next_moves(row.stands, number):
        few = others if row.has_many(target) else (*others, target)
        key = (standing, few)
        if key not in judged:
            judged[key] = rows.has_covered(Row(standing, row.many, few, None, None))
        if not judged[key]:
            return False
    return True
