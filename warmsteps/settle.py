"""Whether rules are right, with rows that show it or a weaving that shows that they are not."""

from warmsteps.forward import Flood
from warmsteps.nets import OUTSIDE, meetings
from warmsteps.plans import Plan, Trail, woven
from warmsteps.rows import numbers_in, told_rows

FEW_ROWS = 250
MOST_IN_BREADTH = 1000
MANY_EVENTS = 20000


def quick(net):
    """A search that counts all hands behind claims, or None if it has not ended within some rows."""
    flood = Flood(net, None)
    return flood if flood.run(True, FEW_ROWS) else None


def settled(net, most):
    """("right", a right list of rows), or ("wrong", a wrong weaving), None for one of more than so many events."""
    flood = quick(net)
    return settled_by(flood, most) if flood is not None else settled_slowly(net, most)


def settled_by(flood, most):
    """What a search that has ended, and that counts all hands behind claims, shows."""
    if flood.fault is None:
        return "right", told_rows(flood.net, flood.listed())
    plan = Plan(Trail(flood))
    return "wrong", woven(flood.net, plan.done[::-1]) if plan.run(most) else None


def settled_slowly(net, most):
    """As settled, for rules that may have many rows if all is counted."""
    rows = plain_rows(net)
    if rows is not None:
        return "right", told_rows(net, rows)
    claimed = net.claimed()
    counted = {}
    while len(counted) < len(claimed):
        flood = flooded(net, counted)
        if flood.fault is None:
            return "right", told_rows(net, flood.listed())
        plan = Plan(Trail(flood))
        is_whole = plan.run(most)
        if plan.doubled:
            for number in plan.doubled:
                for turn in range(len(flood.turns.every)):
                    counted[flood.turns.state(turn, number)] = True
        elif is_whole:
            return "wrong", woven(net, plan.done[::-1])
        else:
            # Where all are counted, it is sure that something goes wrong, however long the plan is.
            counted = {number: True for number in claimed}
    return settled_by(flooded(net, None), most)


def flooded(net, counted):
    """A search that has ended: one in breadth finds shorter ways, one in depth ends sooner where there is none."""
    flood = Flood(net, counted)
    if not flood.run(True, MOST_IN_BREADTH):
        flood = Flood(net, counted)
        flood.run(False, None)
    return flood


def plain_rows(net):
    """A right list of one row for each standing, none of which counts hands, or None if there is no such list.

    The rows are tuples of one standing, a set of states, and no few.
    """
    many = net.gather()
    met = meetings(net.standings, net.start, net.all_ways(), many)
    if any([met[number] and net.goes_wrong(number) for number in range(many)]):
        return None
    found = []
    for bit in numbers_in(met[OUTSIDE]):
        states = 0
        for number in range(many):
            states = states | ((met[number] >> bit & 1) << number)
        found.append((1 << bit, states, ()))
    return found
