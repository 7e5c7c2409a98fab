"""Stage 5: the least wrong weavings."""

from warmsteps.backward import Classes, least_of, least_with
from warmsteps.forms import need_shapes
from warmsteps.forward import MANY_EVENTS, settled
from warmsteps.nets import Net

FEW = 2
MOST_HANDS = 4


def least_weaving(rules, shapes):
    """The least wrong weaving, or None; of at most four different hands."""
    need_shapes(shapes)
    net = Net(rules, shapes)
    weaving = least_with(net, 1, FEW)
    if weaving is None and is_wrong(net):
        weaving = least_with(net, FEW + 1, MOST_HANDS)
    return weaving


def fewest_hands(rules, shapes):
    """The number of different hands in the least wrong weaving, or None."""
    weaving = least_weaving(rules, shapes)
    return None if weaving is None else len(set([event[0] for event in weaving]))


def shortest(rules, shapes, hands):
    """The first one of the shortest wrong weavings of at most so many different hands, or None."""
    need_shapes(shapes)
    net = Net(rules, shapes)
    # Where there is nothing to be found, a search for more hands than a few would be long.
    if hands > FEW and not is_wrong(net):
        return None
    return least_of(Classes(net), hands)


def is_wrong(net):
    """Whether there is a wrong weaving of any number of hands."""
    return settled(net, MANY_EVENTS)[0] == "wrong"
