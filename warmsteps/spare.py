"""Stage 7: moves of right rules that can be left out or exchanged."""

from warmsteps.costs import never_dearer
from warmsteps.errors import BadCourse, NoPlace, NotRight
from warmsteps.forms import need_shapes
from warmsteps.nets import Net
from warmsteps.settle import is_right


def spare(rules, shapes):
    """The ascending list of the places without which there are right rules."""
    need_right(rules, shapes)
    return [place for place in rules.places() if are_right(without(rules, place), shapes)]


def swappable(rules, shapes):
    """The ascending list of the places which, exchanged with the next ones, leave right rules."""
    need_right(rules, shapes)
    return [place for place in rules.places() if are_right(exchanged(rules, place), shapes)]


def trimmed(rules, shapes, price):
    """What is left of the rules when moves are left out, the last ones first, that are not needed and save nothing."""
    need_right(rules, shapes)
    left = rules
    for place in rules.places()[::-1]:
        # What was left out so far stands behind this place, which so is still that of the same move.
        less = without(left, place)
        if are_right(less, shapes) and never_dearer(less, left, shapes, price, 0)[0] == "yes":
            left = less
    return left


def need_right(rules, shapes):
    """Raise NotRight if the rules have no right list of rows."""
    need_shapes(shapes)
    if not is_right(Net(rules, shapes)):
        raise NotRight(rules)


def are_right(rules, shapes):
    """Whether there are rules, not None, and they have a right list of rows."""
    return rules is not None and is_right(Net(rules, shapes))


def without(rules, place):
    """The rules without the move at this place, or None."""
    try:
        return rules.without(place)
    except BadCourse:
        return None


def exchanged(rules, place):
    """The rules in which the move at this place and the next one are exchanged, or None."""
    try:
        return rules.exchanged(place)
    except (BadCourse, NoPlace):
        return None
