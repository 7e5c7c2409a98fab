"""Stage 3: standings, states and rows, and the single moves of hands."""

from warmsteps.errors import GoneWrong
from warmsteps.forms import ACTS, CHECKS, DEEPEST_REST, ENDS, alike, cells_of, is_cell, is_integer, is_plain, looks
from warmsteps.forms import need_shapes, other_of, rests_in

KEY = 2
NOTE = 3


def beginning(rules):
    """The standing of a site in the beginning."""
    second = "plain" if len(rules.pattern) == 2 else ""
    return ("plain", second, 0, 0)


def is_standing(rules, shapes, value):
    """Whether any value has the form of a standing."""
    need_shapes(shapes)
    if not isinstance(value, tuple) or len(value) != 4:
        return False
    first, second, key, note = value
    most = shapes if looks(rules.pattern) else 0
    if not is_up_to(key, most) or not is_up_to(note, most):
        return False
    return is_word_of(rules, 1, first) and is_word_of(rules, 2, second)


def is_state(rules, shapes, value):
    """Whether any value has the form of a state of a hand."""
    need_shapes(shapes)
    return has_state_form(rules.pattern, shapes, rests_of(rules), value)


def is_row(rules, shapes, value):
    """Whether any value has the form of a row."""
    need_shapes(shapes)
    return has_row_form(rules, shapes, rests_of(rules), value)


def has_row_form(rules, shapes, rests, value):
    """Whether any value has the form of a row with these rests."""
    if not isinstance(value, tuple) or len(value) != 3:
        return False
    standing, many, few = value
    if not is_standing(rules, shapes, standing) or not isinstance(many, tuple) or not isinstance(few, tuple):
        return False
    for state in (*many, *few):
        if not has_state_form(rules.pattern, shapes, rests, state):
            return False
    if not all([many[at] < many[at + 1] for at in range(len(many) - 1)]):
        return False
    if not all([few[at] <= few[at + 1] for at in range(len(few) - 1)]):
        return False
    return not any([state in many for state in few])


def are_rows(rules, shapes, value):
    """Whether any value is a list of what has the form of rows."""
    need_shapes(shapes)
    if not isinstance(value, list):
        return False
    rests = rests_of(rules)
    return all([has_row_form(rules, shapes, rests, row) for row in value])


def most_left(rules, state):
    """The greatest number of moves that a hand in this state can do until it is outside."""
    if len(rules.pattern) == 1:
        return most_in(state[1], 0)
    # To read the second cell's word is a move, too.
    second = 1 + max([most_in(rules.course(2, word), 0) for word in rules.words(2)])
    return most_in(state[1], second) if state[1] else second


def arrivals(rules, shapes, standing):
    """The ascending list of the different states in which a hand can be when it has come."""
    need_shapes(shapes)
    owns = list(range(1, shapes + 1)) if looks(rules.pattern) else [0]
    found = [arrived(rules, standing, 1, own) for own in owns]
    if len(rules.pattern) == 2 and not rules.closed:
        found.append(arrived(rules, standing, 2, 0))
    return found


def arrived(rules, standing, cell, own):
    """The state of a hand that has come to this cell with this own shape."""
    return (cell, rules.course(cell, standing[cell - 1]), own, 0, cells_of(rules.pattern)[cell - 1:])


def stepped(rules, standing, state):
    """The tuple of standing and state behind the next move of a hand; the state is None if it is outside."""
    cell, rest, own, read, owed = state
    if not rest:
        return standing, (cell, rules.course(cell, standing[1]), own, read, owed)
    name = rest[0][0]
    if name in CHECKS:
        return checked(standing, state)
    if name in ACTS:
        return standing, acted(state)
    if name in ENDS:
        return standing, ended(state)
    if name == "note":
        return standing, (cell, rest[1:], own, standing[NOTE], owed)
    return written(standing, rest[0], own), (cell, rest[1:], own, read, owed)


def covers(one, other):
    """Whether the first row covers the second one."""
    standing, many, few = one
    other_standing, other_many, other_few = other
    if standing != other_standing or not all([state in many for state in other_many]):
        return False
    for state in other_few:
        if state not in many and few.count(state) < other_few.count(state):
            return False
    return True


def is_up_to(value, most):
    """Whether any value is an integer from 0 to most."""
    return is_integer(value) and 0 <= value <= most


def is_word_of(rules, cell, value):
    """Whether any value is a word of the cell, or "" if there is no such cell."""
    words = rules.words(cell) if cell <= len(rules.pattern) else [""]
    return isinstance(value, str) and value in words


def rests_of(rules):
    """The dict from each cell to a dict whose keys are the rests that hands at this cell can have."""
    rests = {}
    for cell in cells_of(rules.pattern):
        found = [()] if cell == 2 else []
        for word in rules.words(cell):
            found.extend(rests_in(rules.course(cell, word)))
        rests[cell] = {rest: True for rest in found}
    return rests


def has_state_form(pattern, shapes, rests, value):
    """Whether any value has the form of a state with one of these rests."""
    if not isinstance(value, tuple) or len(value) != 5 or not is_cell(pattern, value[0]):
        return False
    cell, rest, own, read, owed = value
    looking = cell == 1 and looks(pattern)
    most = shapes if looking else 0
    if not is_up_to(own, most) or not is_up_to(read, most) or (looking and own == 0):
        return False
    cells = cells_of(pattern)
    if not any([alike(owed, cells[at:]) for at in range(len(cells) + 1)]):
        return False
    # What is not plain may not be looked up: it may have no hash, or be equal to a rest that it is not.
    return isinstance(rest, tuple) and is_plain(rest, DEEPEST_REST) and rest in rests[cell]


def most_in(rest, second):
    """The most moves in a rest that is not empty, if so many can follow behind "on"."""
    most = 0
    for move in reversed(list(rest)):
        if move[0] in CHECKS:
            most = 1 + max(most, most_in(other_of(move), second))
        else:
            most = 1 + (second if move[0] == "on" else most)
    return most


def checked(standing, state):
    """Standing and state behind a check."""
    cell, rest, own, read, owed = state
    check = rest[0]
    if not holds(standing, check, own):
        return standing, (cell, other_of(check), own, read, owed)
    if check[0] == "claim":
        standing = put(standing, check[1] - 1, check[3])
    return standing, (cell, rest[1:], own, read, owed)


def holds(standing, check, own):
    """Whether a check of a hand with this own shape holds."""
    if check[0] == "key":
        return standing[KEY] == own
    return standing[check[1] - 1] == check[2]


def acted(state):
    """The state behind an act."""
    cell, rest, own, read, owed = state
    act = rest[0]
    done = act[1] if act[0] == "do" else 1
    if owed[:1] != (done,) or (act[0] == "trust" and read != own):
        raise GoneWrong(state)
    return (cell, rest[1:], own, read, owed[1:])


def ended(state):
    """The state behind an end, None behind "out"."""
    rest, owed = state[1], state[4]
    if rest[0][0] == "on":
        return (2, (), 0, 0, owed)
    if owed:
        raise GoneWrong(state)
    return None


def written(standing, move, own):
    """The standing behind a move that writes."""
    if move[0] == "word":
        return put(standing, move[1] - 1, move[2])
    half = KEY if move[1] == "key" else NOTE
    return put(standing, half, own if move[0] == "set" else 0)


def put(standing, at, worth):
    """The standing with this worth at one of its four places."""
    return standing[:at] + (worth,) + standing[at + 1:]
