"""Whether rules are right, with rows that show it or a weaving that shows that they are not."""

from warmsteps.forward import Flood
from warmsteps.nets import OUTSIDE, meetings
from warmsteps.plans import plan_of_fault, plan_of_goal, woven
from warmsteps.rows import numbers_in, told_rows
from warmsteps.walks import MOST_STEPS, Walk

FEW_ROWS = 250
MOST_IN_BREADTH = 1000
MANY_EVENTS = 20000


def quick(net):
    """A search that counts all hands behind claims, or None if it has not ended within some rows."""
    flood = Flood(net, None)
    return flood if flood.run(True, FEW_ROWS) else None


def settled_by(flood, most):
    """What a search that has ended, and that counts all hands behind claims, shows."""
    if flood.fault is None:
        return "right", told_rows(flood.net, flood.listed())
    plan = plan_of_fault(flood)
    return "wrong", woven(flood.net, plan.done[::-1]) if plan.run(most) else None


def is_right(net):
    """Whether rules are right."""
    flood = quick(net)
    if flood is not None:
        return flood.fault is None
    # Where there are many rows, it is soon found that a hand goes wrong, if two hands or one can bring it about.
    walk = Walk(net, 2)
    if walk.run(MOST_STEPS) and walk.weaving() is not None:
        return False
    return settled_slowly(net, MANY_EVENTS)[0] == "right"


def settled_slowly(net, most):
    """("right", a right list of rows), or ("wrong", a wrong weaving), None for one of more than so many events.

    This is for rules that may have many rows if all hands behind claims are counted.
    """
    rows = plain_rows(net)
    if rows is not None:
        return "right", told_rows(net, rows)
    claimed = net.claimed()
    counted = {}
    while len(counted) < len(claimed):
        flood = flooded(net, counted)
        if flood.fault is None:
            return "right", told_rows(net, flood.listed())
        plan = plan_of_fault(flood)
        is_whole = plan.run(most)
        if plan.doubled:
            counted = with_turned(flood, counted, plan.doubled)
        elif is_whole:
            return "wrong", woven(net, plan.done[::-1])
        else:
            # Where all are counted, it is sure that something goes wrong, however long the plan is.
            counted = {number: True for number in claimed}
    return settled_by(flooded(net, None), most)


def with_turned(flood, counted, more):
    """The dict of the states that are counted with more of them, and with those that differ from these by turns."""
    found = {number: True for number in counted}
    for number in more:
        for turn in range(len(flood.turns.every)):
            found[flood.turns.state(turn, number)] = True
    return found


def flooded(net, counted, goal=None):
    """A search that has ended: one in breadth finds shorter ways, one in depth ends sooner where there is none."""
    flood = Flood(net, counted, goal)
    if not flood.run(True, MOST_IN_BREADTH):
        flood = Flood(net, counted, goal)
        flood.run(False, None)
    return flood


def met(net, goal):
    """("yes", a weaving behind which a goal is reached), or ("no", a right list of rows in which it is not).

    The rules are right. A goal is a dict from states to numbers of hands.
    """
    flood = Flood(net, None, goal)
    if flood.run(True, FEW_ROWS):
        return met_by(flood, goal, None)
    counted = {}
    flood = flooded(net, counted, goal)
    while flood.fault is not None:
        plan = plan_of_fault(flood) if flood.reached is None else plan_of_goal(flood, goal)[0]
        is_whole = plan.run(MANY_EVENTS)
        if plan.doubled:
            counted = with_turned(flood, counted, plan.doubled)
        elif is_whole:
            return met_by(flood, goal, MANY_EVENTS)
        else:
            return met_by(flooded(net, None, goal), goal, None)
        flood = flooded(net, counted, goal)
    return met_by(flood, goal, None)


def met_by(flood, goal, most):
    """What a search for a goal shows that has ended, and that took no hands for several which can not be."""
    if flood.fault is None:
        return "no", told_rows(flood.net, flood.listed())
    plan, turn = plan_of_goal(flood, goal)
    plan.run(most)
    events = []
    for event in woven(flood.net, plan.done[::-1]):
        events.append(event if len(event) == 1 else (event[0], event[1], turn[event[2]]))
    return "yes", events


def plain_rows(net):
    """A right list of one row for each standing, none of which counts hands, or None if there is no such list.

    The rows are tuples of one standing, a set of states, and no few.
    """
    many = net.gather()
    stood = meetings(net.standings, net.start, net.all_ways(), many)
    if any([stood[number] and net.goes_wrong(number) for number in range(many)]):
        return None
    found = []
    for bit in numbers_in(stood[OUTSIDE]):
        states = 0
        for number in range(many):
            states = states | ((stood[number] >> bit & 1) << number)
        found.append((1 << bit, states, ()))
    return found
