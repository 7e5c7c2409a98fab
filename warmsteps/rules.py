"""Stage 1: rules, a pattern with a course of moves for each word of its cells."""

from warmsteps.errors import BadCourse, BadCourses, BadPattern, NoPlace
from warmsteps.forms import MOST_MOVES, Judge, are_keyed, changed_at, is_integer, is_pattern
from warmsteps.forms import left_out, moves_in, turned, words_of

LATE = (("do", 1), ("out",))
WRITER = (("do", 1), ("set", "note"), ("set", "key"), ("word", 1, "sure"), ("out",))
SURE = (("key", (("do", 1), ("out",))), ("note",), ("trust",), ("out",))


class Rules:
    """What the words of the cells of a pattern do; rules never change."""

    def __init__(self, pattern, courses, *, closed=False):
        if not is_pattern(pattern):
            raise BadPattern(pattern)
        if not are_keyed(pattern, courses):
            raise BadCourses(courses)
        for key in sorted(courses):
            if not Judge(pattern, courses, key[0]).is_course(courses[key]):
                raise BadCourse(key)
        moves = placed_moves(courses)
        if len(moves) > MOST_MOVES:
            raise BadCourses(courses)
        self._pattern = pattern
        self._courses = {key: courses[key] for key in sorted(courses)}
        self._closed = closed
        self._moves = moves

    @property
    def pattern(self):
        """The pattern."""
        return self._pattern

    @property
    def courses(self):
        """A new dict from tuples (cell, word) to courses."""
        return {key: self._courses[key] for key in self._courses}

    @property
    def closed(self):
        """Whether the rules are closed."""
        return self._closed

    def course(self, cell, word):
        """The course of a word of a cell."""
        return self._courses[(cell, word)]

    def words(self, cell):
        """The ascending list of the words of a cell."""
        return words_of(self._courses, cell)

    def places(self):
        """The ascending list of the places of all moves."""
        return list(self._moves)

    def __len__(self):
        return len(self._moves)

    def __contains__(self, x):
        return is_place(self._moves, x)

    def __getitem__(self, at):
        if not is_place(self._moves, at):
            raise NoPlace(at)
        return self._moves[at]

    def __iter__(self):
        raise TypeError("rules are not iterated over: take places()")

    def __eq__(self, other):
        return (isinstance(other, Rules) and self._pattern == other._pattern
                and self._courses == other._courses and self._closed == other._closed)

    def without(self, place):
        """The rules in which the move at this place is left out, with its other course."""
        if place not in self:
            raise NoPlace(place)
        return self._changed(place, left_out)

    def exchanged(self, place):
        """The rules in which the move at this place and the next one of its course are exchanged."""
        if place not in self or next_place(place) not in self:
            raise NoPlace(place)
        return self._changed(place, turned)

    def _changed(self, place, change):
        cell, word, path = place
        courses = self.courses
        courses[(cell, word)] = changed_at(courses[(cell, word)], path, change)
        return Rules(self._pattern, courses, closed=self._closed)

    @staticmethod
    def plain(pattern):
        """Open rules whose words do the plain steps, and nothing else."""
        if not is_pattern(pattern):
            raise BadPattern(pattern)
        last = len(pattern)
        courses = {(cell, "plain"): (("do", cell), ("on",)) for cell in range(1, last)}
        courses[(last, "plain")] = (("do", last), ("out",))
        return Rules(pattern, courses)

    @staticmethod
    def careful():
        """Open rules for a look, whose writer claims the cell before it writes."""
        writer = (("claim", 1, "plain", "busy", LATE), *WRITER)
        return Rules(("look",), {(1, "plain"): writer, (1, "busy"): LATE, (1, "sure"): SURE})

    @staticmethod
    def hasty():
        """Open rules for a look, whose writers do not wait for one another."""
        return Rules(("look",), {(1, "plain"): WRITER, (1, "sure"): SURE})


def placed_moves(courses):
    """The dict from places to moves of right courses, its keys ascending."""
    moves = {}
    for cell, word in sorted(courses):
        for path, move in moves_in(courses[(cell, word)]):
            moves[(cell, word, path)] = move
    return moves


def is_place(moves, value):
    """Whether any value is one of the places in a dict of moves."""
    if not isinstance(value, tuple) or len(value) != 3:
        return False
    cell, word, path = value
    if not is_integer(cell) or not isinstance(word, str) or not isinstance(path, tuple):
        return False
    return all([is_integer(at) for at in path]) and value in moves


def next_place(place):
    """The place behind this one in the same course; perhaps there is no move."""
    cell, word, path = place
    return (cell, word, (*path[:-1], path[-1] + 1))
