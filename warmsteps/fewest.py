"""The least wrong weavings of so many hands, by the search that suits."""

from warmsteps.backward import Classes, least_of
from warmsteps.walks import MOST_STEPS, Walk

WALKING = 2


class Seeker:
    """Looks for the least wrong weavings of a net."""

    def __init__(self, net):
        self._net = net
        self._classes = None

    def shortest(self, hands):
        """The first one of the shortest wrong weavings of at most so many different hands, or None."""
        if hands <= WALKING:
            walk = Walk(self._net, hands)
            if walk.run(MOST_STEPS):
                return walk.weaving()
        if self._classes is None:
            self._classes = Classes(self._net)
        return least_of(self._classes, hands)

    def least(self, fewest, most):
        """The least wrong weaving, if it has from fewest to most different hands; else None."""
        for hands in range(fewest, most + 1):
            weaving = self.shortest(hands)
            if weaving is not None:
                return weaving
        return None
