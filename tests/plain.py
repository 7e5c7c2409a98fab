"""The document's words on weavings and rows, done as plainly as can be: what the package tells is held against it."""

from warmsteps.errors import GoneWrong
from warmsteps.steps import arrivals, beginning, covers, stepped


def behind(rules, standing, state):
    """The standing and state behind the next move, or None if it goes wrong."""
    try:
        return stepped(rules, standing, state)
    except GoneWrong:
        return None


def is_wrong_weaving(rules, shapes, events):
    """Whether a list of right events is a wrong weaving [10]."""
    standing, hands = beginning(rules), {}
    for number, event in enumerate(events):
        if len(event) == 3:
            hand, cell, own = event
            came = [state for state in arrivals(rules, shapes, standing) if (state[0], state[2]) == (cell, own)]
            if hand in hands or len(came) != 1:
                return False
            hands[hand] = came[0]
            continue
        if event[0] not in hands:
            return False
        end = behind(rules, standing, hands[event[0]])
        if end is None:
            return number == len(events) - 1
        standing, hands[event[0]] = end
        if end[1] is None:
            del hands[event[0]]
    return False


def is_right_list(rules, shapes, rows):
    """Whether a list of what has the form of rows is right [11]."""
    def covered(standing, many, few):
        row = (standing, many, tuple(sorted(state for state in few if state not in many)))
        return any(covers(other, row) for other in rows)

    if not covered(beginning(rules), (), ()):
        return False
    for standing, many, few in rows:
        for state in arrivals(rules, shapes, standing):
            if not covered(standing, many, (*few, state)):
                return False
        for state in (*many, *few):
            others = list(few)
            if state in others:
                others.remove(state)
            end = behind(rules, standing, state)
            if end is None or not covered(end[0], many, (*others, *([] if end[1] is None else [end[1]]))):
                return False
    return True


def search(rules, shapes, hands):
    """The first one of the shortest wrong weavings of at most so many hands, numbered as they come, or None.

    It goes through all events of all hands; the weavings of a length are gone through as Python orders them.
    """
    first = (beginning(rules), (None,) * hands, 0)
    seen = {first}
    level = [(first, [])]
    while level:
        longer = []
        for (standing, inside, came), events in level:
            for hand in range(min(hands, came + 1)):
                ends = []
                if inside[hand] is None:
                    ends = [((hand, state[0], state[2]), standing, state)
                            for state in arrivals(rules, shapes, standing)]
                else:
                    end = behind(rules, standing, inside[hand])
                    if end is None:
                        return [*events, (hand,)]
                    ends = [((hand,), *end)]
                for event, after, state in ends:
                    known = (after, (*inside[:hand], state, *inside[hand + 1:]), max(came, hand + 1))
                    if known not in seen:
                        seen.add(known)
                        longer.append((known, [*events, event]))
        level = longer
    return None
