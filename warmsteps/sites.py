"""Stage 2: a site by itself, its hands, and what they do event by event."""

from warmsteps.errors import BadCell, BadEvent, BadHand, BadShape, GoneWrong, Inside, Outside, TooFar, WarmError
from warmsteps.forms import is_integer, looks, need_shapes
from warmsteps.steps import arrived, beginning, stepped


class Site:
    """A site of some rules, where shapes are numbers from 1 on."""

    def __init__(self, rules, shapes):
        need_shapes(shapes)
        self._rules = rules
        self._shapes = shapes
        self._standing = beginning(rules)
        self._hands = {}
        self._wrong = None
        # Of each event done: the event, the standing ahead of it, and its hand's state ahead of it or None.
        self._done = []

    @property
    def rules(self):
        """The rules."""
        return self._rules

    @property
    def shapes(self):
        """The number of shapes."""
        return self._shapes

    @property
    def standing(self):
        """The standing."""
        return self._standing

    @property
    def hands(self):
        """A new dict from the hands that are inside to their states."""
        return {hand: self._hands[hand] for hand in self._hands}

    @property
    def wrong(self):
        """The hand that has gone wrong, or None."""
        return self._wrong

    def come(self, hand, cell, shape):
        """A hand that is outside comes to a cell, with this own shape."""
        self._need_right()
        need_hand(hand)
        if not is_coming_cell(self._rules, cell):
            raise BadCell(cell)
        if not is_own_shape(self._rules, self._shapes, cell, shape):
            raise BadShape(shape)
        if hand in self._hands:
            raise Inside(hand)
        self._done.append(((hand, cell, shape), self._standing, None))
        self._hands[hand] = arrived(self._rules, self._standing, cell, shape)

    def move(self, hand):
        """A hand that is inside does its next move; if that goes wrong, standing and state stay."""
        self._need_right()
        need_hand(hand)
        if hand not in self._hands:
            raise Outside(hand)
        state = self._hands[hand]
        self._done.append(((hand,), self._standing, state))
        try:
            self._standing, state = stepped(self._rules, self._standing, state)
        except GoneWrong:
            self._wrong = hand
        if state is None:
            del self._hands[hand]
        else:
            self._hands[hand] = state

    def play(self, events):
        """Do all these events, or none of them."""
        ahead = len(self._done)
        for number, event in enumerate(events):
            if not self._has_done(event):
                self.undo(len(self._done) - ahead)
                raise BadEvent(number)

    def events(self):
        """The list of the events done."""
        return [event for event, _, _ in self._done]

    def undo(self, many):
        """Take so many of the last events back."""
        if not is_integer(many) or not 0 <= many <= len(self._done):
            raise TooFar(len(self._done))
        for _ in range(many):
            event, standing, state = self._done.pop()
            self._standing = standing
            self._wrong = None
            if state is None:
                del self._hands[event[0]]
            else:
                self._hands[event[0]] = state

    def fork(self):
        """A site that stands the same, with the same events behind it, and goes its own way."""
        site = Site(self._rules, self._shapes)
        site._standing = self._standing
        site._hands = self.hands
        site._wrong = self._wrong
        site._done = list(self._done)
        return site

    def __len__(self):
        return len(self._done)

    def __eq__(self, other):
        return (isinstance(other, Site) and self._rules == other._rules and self._shapes == other._shapes
                and self._standing == other._standing and self._hands == other._hands
                and self._wrong == other._wrong)

    def _need_right(self):
        if self._wrong is not None:
            raise GoneWrong(self._wrong)

    def _has_done(self, event):
        """Do any value that is an event and can be done; tell whether it was one."""
        if not isinstance(event, tuple) or len(event) not in (1, 3):
            return False
        try:
            if len(event) == 1:
                self.move(event[0])
            else:
                self.come(event[0], event[1], event[2])
        except WarmError:
            return False
        return True


def need_hand(hand):
    """Raise BadHand for any value that is no integer from 0 on."""
    if not is_integer(hand) or hand < 0:
        raise BadHand(hand)


def is_coming_cell(rules, value):
    """Whether any value is a cell to which hands come."""
    return is_integer(value) and (value == 1 or (value == 2 and len(rules.pattern) == 2 and not rules.closed))


def is_own_shape(rules, shapes, cell, value):
    """Whether any value is an own shape of hands that come to this cell."""
    if not is_integer(value):
        return False
    return 1 <= value <= shapes if cell == 1 and looks(rules.pattern) else value == 0
