"""Stage 5: the least wrong weavings."""

from warmsteps.fewest import Seeker
from warmsteps.forms import need_shapes
from warmsteps.nets import Net
from warmsteps.settle import MANY_EVENTS, quick, settled_slowly

FEW = 2
MOST_HANDS = 4


def least_weaving(rules, shapes):
    """The least wrong weaving, or None; of at most four different hands."""
    need_shapes(shapes)
    net = Net(rules, shapes)
    flood = quick(net)
    if flood is not None:
        return None if flood.fault is None else Seeker(net).least(1, MOST_HANDS)
    weaving = Seeker(net).least(1, FEW)
    if weaving is None and is_wrong(net):
        weaving = Seeker(net).least(FEW + 1, MOST_HANDS)
    return weaving


def fewest_hands(rules, shapes):
    """The number of different hands in the least wrong weaving, or None."""
    weaving = least_weaving(rules, shapes)
    return None if weaving is None else len(set([event[0] for event in weaving]))


def shortest(rules, shapes, hands):
    """The first one of the shortest wrong weavings of at most so many different hands, or None."""
    need_shapes(shapes)
    net = Net(rules, shapes)
    # Where there is nothing to be found, a search for more hands than a few would be long.
    flood = quick(net)
    if flood is not None and flood.fault is None:
        return None
    if flood is None and hands > FEW and not is_wrong(net):
        return None
    return Seeker(net).shortest(hands)


def is_wrong(net):
    """Whether there is a wrong weaving of any number of hands, for rules that have many rows."""
    return settled_slowly(net, MANY_EVENTS)[0] == "wrong"
