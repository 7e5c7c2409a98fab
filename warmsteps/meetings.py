"""Stage 8: whether hands can be in some states at once."""

from warmsteps.errors import BadEvent, BadState, NotRight
from warmsteps.forms import need_shapes
from warmsteps.nets import Net
from warmsteps.settle import is_right, met
from warmsteps.sites import Site
from warmsteps.steps import has_state_form, rests_of
from warmsteps.verdicts import is_rows


def meets(rules, shapes, states):
    """("yes", a weaving behind which different hands are in these states), or ("no", rows in which that is not let)."""
    net = need_meeting(rules, shapes, states)
    goal = {}
    for state in states:
        number = net.number_of(state)
        goal[number] = goal.get(number, 0) + 1
    return met(net, goal)


def is_meeting(rules, shapes, states, value):
    """Whether any value is a weaving behind which different hands are inside in these states."""
    need_meeting(rules, shapes, states)
    if not isinstance(value, list):
        return False
    site = Site(rules, shapes)
    try:
        site.play(value)
    except BadEvent:
        return False
    inside = list(site.hands.values())
    return all([inside.count(state) >= states.count(state) for state in states])


def is_apart(rules, shapes, states, value):
    """Whether any value is a right list of rows in none of which these states are let at once."""
    need_meeting(rules, shapes, states)
    if not is_rows(rules, shapes, value):
        return False
    return not any([lets(row, states) for row in value])


def lets(row, states):
    """Whether a row stands for hands in these states at once, and perhaps others."""
    _, many, few = row
    return all([state in many or few.count(state) >= states.count(state) for state in states])


def need_meeting(rules, shapes, states):
    """A net of the rules; raise the error that applies first if no meeting can be asked."""
    need_shapes(shapes)
    rests = rests_of(rules)
    for state in states:
        if not has_state_form(rules.pattern, shapes, rests, state):
            raise BadState(state)
    net = Net(rules, shapes)
    if not is_right(net):
        raise NotRight(rules)
    return net
