"""Stage 4: verdicts on rules, and what shows that they hold."""

from warmsteps.backward import least_with
from warmsteps.errors import BadEvent
from warmsteps.forms import need_shapes
from warmsteps.forward import MANY_EVENTS, Row, Rows, numbers_in, settled
from warmsteps.nets import OUTSIDE, Net
from warmsteps.sites import Site
from warmsteps.steps import are_rows


def verdict(rules, shapes):
    """("right", a right list of rows), or ("wrong", a wrong weaving)."""
    need_shapes(shapes)
    net = Net(rules, shapes)
    weaving = least_with(net, 1, 2)
    if weaving is not None:
        return "wrong", weaving
    word, shown = settled(net, MANY_EVENTS)
    if shown is None:
        # There is a way, but a long one: a weaving of few hands is shorter, if there is one.
        shown = least_with(net, 3, 4)
    if shown is None:
        word, shown = settled(net, None)
    return word, shown


def is_weaving(rules, shapes, value):
    """Whether any value is a wrong weaving, a list."""
    site = Site(rules, shapes)
    if not isinstance(value, list):
        return False
    try:
        site.play(value)
    except BadEvent:
        return False
    return site.wrong is not None


def is_rows(rules, shapes, value):
    """Whether any value is a right list of rows."""
    need_shapes(shapes)
    if not are_rows(rules, shapes, value):
        return False
    net = Net(rules, shapes)
    listed = [as_row(net, standing, many, few) for standing, many, few in value]
    rows = Rows()
    for row in listed:
        rows.add(row)
    if not rows.has_covered(as_row(net, net.standings.told(net.start), (), ())):
        return False
    for row in listed:
        if not is_closed(net, rows, row):
            return False
    return True


def as_row(net, standing, many, few):
    """A row of tuples as one of the search."""
    bits = 1 << OUTSIDE
    for state in many:
        bits = bits | (1 << net.number(state))
    return Row(net.standings.one(standing), bits, tuple([net.number(state) for state in few]), None, [])


def is_closed(net, rows, row):
    """Whether no move from this row goes wrong, and what is behind each of them is covered by one of the rows."""
    judged = {}
    for number in numbers_in(row.many):
        if not is_move_closed(net, rows, row, row.few, number, judged):
            return False
    for at, number in enumerate(row.few):
        if not is_move_closed(net, rows, row, row.few[:at] + row.few[at + 1:], number, judged):
            return False
    return True


def is_move_closed(net, rows, row, others, number, judged):
    """Whether the next move of a hand in this state, with these few others, does not go wrong and is covered."""
    if net.goes_wrong(number):
        return False
    for standing, target in net.next_moves(row.stands, number):
        few = others if row.has_many(target) else (*others, target)
        key = (standing, few)
        if key not in judged:
            judged[key] = rows.has_covered(Row(standing, row.many, few, None, []))
        if not judged[key]:
            return False
    return True
