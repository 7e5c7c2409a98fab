"""Stage 12: rules and weavings as texts."""

from warmsteps.errors import BadText, WarmError
from warmsteps.forms import CHECKS, ENDS, HALVES, PARTS, is_pattern, is_word, other_of
from warmsteps.rules import Rules

CELLS = ("1", "2")
SHAPES = ("0", "1", "2", "3")
DIGITS = "0123456789"
MOST_DIGITS = 60
DEEPEST = 3
INDENT = "  "


def rules_text(rules):
    """The text of rules."""
    lines = [" ".join(["closed" if rules.closed else "open", *rules.pattern])]
    courses = rules.courses
    for cell, word in courses:
        lines.append(f"cell {cell} {word}")
        lines.extend(course_lines(courses[(cell, word)], 1))
    return "\n".join(lines)


def course_lines(course, deep):
    """The lines of a course that stands so deep, with those of its other courses."""
    lines = []
    for move in course:
        parts = move[:-1] if move[0] in CHECKS else move
        lines.append(INDENT * deep + " ".join([str(part) for part in parts]))
        lines.extend(course_lines(other_of(move), deep + 1))
    return lines


def weaving_text(events):
    """The text of a weaving."""
    return "\n".join([event_line(event) for event in events])


def event_line(event):
    """The line of an event."""
    if len(event) == 1:
        return str(event[0])
    return f"{event[0]} comes {event[1]} {event[2]}"


def read_weaving(text):
    """The list of the events of a text; BadText for any other value."""
    if not isinstance(text, str):
        raise BadText(1)
    if text == "":
        return []
    events = []
    for number, line in enumerate(text.split("\n")):
        event = read_event(line.split(" "))
        if event is None:
            raise BadText(number + 1)
        events.append(event)
    return events


def read_event(parts):
    """The event of the parts of a line, or None."""
    if not is_number(parts[0]):
        return None
    if len(parts) == 1:
        return (int(parts[0]),)
    if len(parts) != 4 or parts[1] != "comes" or parts[2] not in CELLS or parts[3] not in SHAPES:
        return None
    return (int(parts[0]), int(parts[2]), int(parts[3]))


def read_rules(text):
    """The rules of a text; BadText for any other value."""
    if not isinstance(text, str):
        raise BadText(1)
    lines = text.split("\n")
    reader = Reader()
    for number, line in enumerate(lines):
        if not reader.has_read(line):
            raise BadText(number + 1)
    rules = reader.all_read()
    if rules is None:
        raise BadText(len(lines) + 1)
    return rules


class Reader:
    """Reads the lines of rules, one after the other."""

    def __init__(self):
        self._pattern = None
        self._closed = False
        # Tuples of a key and the list of the moves of its course.
        self._courses = []
        # The moves of the courses that have not ended, each in the one ahead of it.
        self._begun = []

    def has_read(self, line):
        """Take a line; tell whether it is one, and can stand here."""
        if self._pattern is None:
            return self._has_read_pattern(line.split(" "))
        if not self._begun:
            return self._has_read_cell(line.split(" "))
        indent = INDENT * len(self._begun)
        if len(self._begun) > DEEPEST or not line.startswith(indent):
            return False
        return self._has_read_move(line[len(indent):].split(" "))

    def all_read(self):
        """The rules of all lines, or None if they are none, or are not in sequence."""
        keys = [key for key, _ in self._courses]
        if self._begun or keys != sorted(set(keys)):
            return None
        courses = {key: course_of(moves) for key, moves in self._courses}
        try:
            return Rules(self._pattern, courses, closed=self._closed)
        except WarmError:
            return None

    def _has_read_pattern(self, parts):
        if parts[0] not in ("open", "closed") or not is_pattern(tuple(parts[1:])):
            return False
        self._pattern = tuple(parts[1:])
        self._closed = parts[0] == "closed"
        return True

    def _has_read_cell(self, parts):
        if len(parts) != 3 or parts[0] != "cell" or parts[1] not in CELLS or not is_word(parts[2]):
            return False
        moves = []
        self._courses.append(((int(parts[1]), parts[2]), moves))
        self._begun.append(moves)
        return True

    def _has_read_move(self, parts):
        move = read_move(parts)
        if move is None:
            return False
        moves = self._begun[-1]
        if move[0] in CHECKS:
            other = []
            moves.append((*move, other))
            self._begun.append(other)
        else:
            moves.append(move)
        if move[0] in ENDS:
            self._begun.pop()
        return True


def course_of(moves):
    """The course of a list of moves, in which other courses are lists, too."""
    return tuple([(*move[:-1], course_of(move[-1])) if move[0] in CHECKS else move for move in moves])


def read_move(parts):
    """The move of the parts of a line, without another course, or None."""
    name = parts[0]
    if name not in PARTS:
        return None
    kinds = [kind for kind in PARTS[name] if kind != "other"]
    if len(parts) != len(kinds) + 1:
        return None
    found = [name]
    for kind, part in zip(kinds, parts[1:]):
        if not is_part(kind, part):
            return None
        found.append(int(part) if kind == "cell" else part)
    return tuple(found)


def is_part(kind, part):
    """Whether a text is a part of this kind."""
    if kind == "cell":
        return part in CELLS
    return part in HALVES if kind == "half" else is_word(part)


def is_number(part):
    """Whether a text is an integer in decimal digits without leading zeros."""
    if not 1 <= len(part) <= MOST_DIGITS or not all([digit in DIGITS for digit in part]):
        return False
    return part == "0" or part[0] != "0"
