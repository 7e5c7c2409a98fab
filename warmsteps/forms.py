"""Which values are integers, words, patterns and courses, and what stands in a course."""

from warmsteps.errors import BadShapes

LETTERS = "abcdefghijklmnopqrstuvwxyz"
LONGEST_WORD = 6
FIRST_WORDS = ("look", "add", "tell", "take")
SECOND_WORDS = ("add", "tell", "take")

MOST_WORDS = 6
MOST_MOVES = 40
LONGEST_COURSE = 12
DEEPEST_COURSE = 2
# Each course and each move in it is a tuple in a tuple.
DEEPEST_REST = 2 * (DEEPEST_COURSE + 1)
MOST_SHAPES = 3

HALVES = ("key", "note")
CHECKS = ("key", "is", "claim")
ACTS = ("do", "trust")
ENDS = ("on", "out")
LOOKING = ("key", "note", "set", "wipe", "trust")

# A part "word" is judged by the cell that stands first behind the name of the move.
PARTS = {
    "key": ("other",),
    "is": ("cell", "word", "other"),
    "claim": ("cell", "word", "word", "other"),
    "note": (),
    "set": ("half",),
    "wipe": ("half",),
    "word": ("cell", "word"),
    "do": ("cell",),
    "trust": (),
    "on": (),
    "out": (),
}


def is_integer(value):
    """Whether any value is an integer; True and False are none."""
    return isinstance(value, int) and not isinstance(value, bool)


def is_word(value):
    """Whether any value is a word: 1 to 6 letters a to z."""
    if not isinstance(value, str) or not 1 <= len(value) <= LONGEST_WORD:
        return False
    return all([letter in LETTERS for letter in value])


def is_pattern(value):
    """Whether any value is a pattern."""
    if not isinstance(value, tuple) or not all([isinstance(word, str) for word in value]):
        return False
    if len(value) == 1:
        return value[0] == "look"
    return len(value) == 2 and value[0] in FIRST_WORDS and value[1] in SECOND_WORDS


def is_cell(pattern, value):
    """Whether any value is the number of a cell of the pattern."""
    return is_integer(value) and 1 <= value <= len(pattern)


def cells_of(pattern):
    """The tuple of the cells of a pattern."""
    return tuple(range(1, len(pattern) + 1))


def looks(pattern):
    """Whether a pattern looks."""
    return pattern[0] == "look"


def need_shapes(shapes):
    """Raise BadShapes for any value that is no number of shapes."""
    if not is_integer(shapes) or not 1 <= shapes <= MOST_SHAPES:
        raise BadShapes(shapes)


def alike(value, form):
    """Whether any value is equal to a form of tuples, strings and integers, and has no bool in it."""
    if not isinstance(form, tuple):
        return not isinstance(value, bool) and value == form
    if not isinstance(value, tuple) or len(value) != len(form):
        return False
    return all([alike(part, other) for part, other in zip(value, form)])


def is_plain(value, deep):
    """Whether any value is made of tuples, so deep at most, and of strings and integers."""
    if isinstance(value, tuple):
        return deep > 0 and all([is_plain(part, deep - 1) for part in value])
    return isinstance(value, str) or is_integer(value)


def are_keyed(pattern, value):
    """Whether any value is a dict whose keys are cells of the pattern with words, enough and not too many."""
    if not isinstance(value, dict) or not all([is_key(pattern, key) for key in value]):
        return False
    for cell in cells_of(pattern):
        if (cell, "plain") not in value or len(words_of(value, cell)) > MOST_WORDS:
            return False
    return True


def is_key(pattern, value):
    """Whether any value is a tuple of a cell of the pattern and a word."""
    return isinstance(value, tuple) and len(value) == 2 and is_cell(pattern, value[0]) and is_word(value[1])


def words_of(courses, cell):
    """The ascending list of the words that a cell has in a dict of courses."""
    return sorted([key[1] for key in courses if key[0] == cell])


class Judge:
    """Tells which values are courses of one cell; the courses are asked for their keys only."""

    def __init__(self, pattern, courses, cell):
        self._pattern = pattern
        self._courses = courses
        self._cell = cell

    def is_course(self, value, deep=0):
        """Whether any value is a course, if it stands so deep in other ones."""
        if not isinstance(value, tuple) or not 1 <= len(value) <= LONGEST_COURSE or deep > DEEPEST_COURSE:
            return False
        for at, move in enumerate(value):
            if not self.is_move(move, deep) or (move[0] in ENDS) != (at == len(value) - 1):
                return False
        return True

    def is_move(self, value, deep):
        """Whether any value is a move that may stand in a course that stands so deep in other ones."""
        if not isinstance(value, tuple) or len(value) == 0 or not isinstance(value[0], str):
            return False
        if value[0] not in PARTS or len(value) != len(PARTS[value[0]]) + 1 or not self.may_stand(value[0]):
            return False
        # Parts are judged in their sequence, so that a word is only asked of what surely is a cell.
        for kind, part in zip(PARTS[value[0]], value[1:]):
            if not self.is_part(kind, part, value[1], deep):
                return False
        return True

    def may_stand(self, name):
        """Whether a move of this name may stand in courses of the cell."""
        if name == "on":
            return self._cell == 1 and len(self._pattern) == 2
        return name not in LOOKING or (self._cell == 1 and looks(self._pattern))

    def is_part(self, kind, value, cell, deep):
        """Whether any value is a part of this kind, in a move that names this cell."""
        if kind == "cell":
            return is_cell(self._pattern, value)
        if kind == "word":
            return is_word(value) and (cell, value) in self._courses
        if kind == "half":
            return isinstance(value, str) and value in HALVES
        return self.is_course(value, deep + 1)


def other_of(move):
    """The other course of a check; that of any other move is empty."""
    return move[-1] if move[0] in CHECKS else ()


def moves_in(course):
    """The list of tuples (path, move) of a course and of the other courses in it, ascending."""
    found = []
    for at, move in enumerate(course):
        found.append(((at,), move))
        for path, inner in moves_in(other_of(move)):
            found.append(((at, *path), inner))
    return found


def rests_in(course):
    """The list of the rests that are not empty, of a course and of the other courses in it."""
    found = []
    for at, move in enumerate(course):
        found.append(course[at:])
        found.extend(rests_in(other_of(move)))
    return found


def changed_at(course, path, change):
    """The course with change(inner, at) for the inner course in which the path ends, at its place at."""
    at = path[0]
    if len(path) == 1:
        return change(course, at)
    move = course[at]
    other = changed_at(move[-1], path[1:], change)
    return course[:at] + ((*move[:-1], other),) + course[at + 1:]


def left_out(course, at):
    """The course without its move at this place."""
    return course[:at] + course[at + 1:]


def turned(course, at):
    """The course with its move at this place and the next one exchanged."""
    return course[:at] + (course[at + 1], course[at]) + course[at + 2:]
