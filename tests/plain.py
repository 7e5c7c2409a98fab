"""The document's words on weavings and rows, done as plainly as can be: what the package tells is held against it."""

from warmsteps.errors import GoneWrong
from warmsteps.steps import arrivals, beginning, covers, stepped


def behind(rules, standing, state):
    """The standing and state behind the next move, or None if it goes wrong."""
    try:
        return stepped(rules, standing, state)
    except GoneWrong:
        return None


def is_wrong_weaving(rules, shapes, events):
    """Whether a list of right events is a wrong weaving [10]."""
    standing, hands = beginning(rules), {}
    for number, event in enumerate(events):
        if len(event) == 3:
            hand, cell, own = event
            came = [state for state in arrivals(rules, shapes, standing) if (state[0], state[2]) == (cell, own)]
            if hand in hands or len(came) != 1:
                return False
            hands[hand] = came[0]
            continue
        if event[0] not in hands:
            return False
        end = behind(rules, standing, hands[event[0]])
        if end is None:
            return number == len(events) - 1
        standing, hands[event[0]] = end
        if end[1] is None:
            del hands[event[0]]
    return False


def is_right_list(rules, shapes, rows):
    """Whether a list of what has the form of rows is right [11]."""
    def covered(standing, many, few):
        row = (standing, many, tuple(sorted(state for state in few if state not in many)))
        return any(covers(other, row) for other in rows)

    if not covered(beginning(rules), (), ()):
        return False
    for standing, many, few in rows:
        for state in arrivals(rules, shapes, standing):
            if not covered(standing, many, (*few, state)):
                return False
        for state in (*many, *few):
            others = list(few)
            if state in others:
                others.remove(state)
            end = behind(rules, standing, state)
            if end is None or not covered(end[0], many, (*others, *([] if end[1] is None else [end[1]]))):
                return False
    return True


def search(rules, shapes, hands):
    """The first one of the shortest wrong weavings of at most so many hands, numbered as they come, or None.

    It goes through all events of all hands; the weavings of a length are gone through as Python orders them.
    """
    first = (beginning(rules), (None,) * hands, 0)
    seen = {first}
    level = [(first, [])]
    while level:
        longer = []
        for (standing, inside, came), events in level:
            for hand in range(min(hands, came + 1)):
                ends = []
                if inside[hand] is None:
                    ends = [((hand, state[0], state[2]), standing, state)
                            for state in arrivals(rules, shapes, standing)]
                else:
                    end = behind(rules, standing, inside[hand])
                    if end is None:
                        return [*events, (hand,)]
                    ends = [((hand,), *end)]
                for event, after, state in ends:
                    known = (after, (*inside[:hand], state, *inside[hand + 1:]), max(came, hand + 1))
                    if known not in seen:
                        seen.add(known)
                        longer.append((known, [*events, event]))
        level = longer
    return None


def visits(rules, shapes):
    """All visits [14]."""
    first = [(1, shape) for shape in range(1, shapes + 1)] if rules.pattern[0] == "look" else [(1, 0)]
    return first + ([(2, 0)] if len(rules.pattern) == 2 and not rules.closed else [])


def visit(rules, standing, visit, price):
    """The tuple of the standing behind a visit, and its cost [14]; or None if it goes wrong."""
    cell, shape = visit
    owed = tuple(range(cell, len(rules.pattern) + 1))
    state, cost = (cell, rules.courses[(cell, standing[cell - 1])], shape, 0, owed), 1
    while state is not None:
        cost += 1
        if state[1] and state[1][0] == ("do", 1) and rules.pattern[0] == "look":
            cost += price
        end = behind(rules, standing, state)
        if end is None:
            return None
        standing, state = end
    return standing, cost


def is_right_alone(rules, shapes):
    """Whether a hand alone never goes wrong."""
    return search(rules, shapes, 1) is None


def most_lead(one, other, shapes, price, most):
    """By how much the first costs more at most, after so many visits or fewer."""
    leads = {(beginning(one), beginning(other)): 0}
    greatest = 0
    for _ in range(most):
        behind_them = {}
        for (first, second), lead in leads.items():
            for come in visits(one, shapes):
                after, cost = visit(one, first, come, price)
                other_after, less = visit(other, second, come, price)
                pair, more = (after, other_after), lead + cost - less
                behind_them[pair] = max(more, behind_them.get(pair, more))
        leads = behind_them
        greatest = max(greatest, *leads.values())
    return greatest


def shows(one, other, shapes, price, amount, heights):
    """Whether a list of what has the form of heights shows that the first is never dearer [14]."""
    known = {}
    for first, second, height in heights:
        if (first, second) in known or height > amount:
            return False
        known[(first, second)] = height
    if known.get((beginning(one), beginning(other)), -1) < 0:
        return False
    for (first, second), height in known.items():
        for come in visits(one, shapes):
            ends = visit(one, first, come, price), visit(other, second, come, price)
            if None in ends:
                return False
            (after, cost), (other_after, less) = ends
            if known.get((after, other_after), -10**9) < height + cost - less:
                return False
    return True


def is_met(rules, shapes, states, events):
    """Whether different hands are inside in these states behind a list of right events [10]."""
    standing, hands = beginning(rules), {}
    for event in events:
        hand = event[0]
        if len(event) == 3:
            came = [state for state in arrivals(rules, shapes, standing) if (state[0], state[2]) == event[1:]]
            if hand in hands or len(came) != 1:
                return False
            hands[hand] = came[0]
            continue
        end = behind(rules, standing, hands[hand]) if hand in hands else None
        if end is None:
            return False
        standing, hands[hand] = end
        if end[1] is None:
            del hands[hand]
    inside = list(hands.values())
    return all(inside.count(state) >= states.count(state) for state in states)


def meetings(rules, shapes, hands, most):
    """The list of all states that so many hands of right rules can be in at once; None if there are too many."""
    first = (beginning(rules), ())
    seen, agenda = {first}, [first]
    while agenda:
        standing, inside = agenda.pop()
        ends = [(standing, (*inside, state)) for state in arrivals(rules, shapes, standing) if len(inside) < hands]
        for at, state in enumerate(inside):
            after, left = behind(rules, standing, state)
            ends.append((after, (*inside[:at], *inside[at + 1:], *([] if left is None else [left]))))
        for after, states in ends:
            known = (after, tuple(sorted(states)))
            if known not in seen:
                seen.add(known)
                agenda.append(known)
        if len(seen) > most:
            return None
    return sorted({states for _, states in seen})
