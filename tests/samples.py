"""Values and rules that several tests use."""

from warmsteps.errors import NoPlace
from warmsteps.rules import Rules

LOOK = ("look",)
LOOK_ADD = ("look", "add")
ADD_TELL = ("add", "tell")
OUT = (("out",),)
LATE = (("do", 1), ("out",))


def deep(kind, many):
    """A tuple or list with so many levels."""
    value = kind()
    for _ in range(many - 1):
        value = kind([value])
    return value


def wide(many):
    """A tuple with two parts at each of so many levels: short to write, endless to go through."""
    value = ()
    for _ in range(many):
        value = (value, value)
    return value


def odd_values():
    """New values of every sort, none of which is a part of what the document calls a pattern, a course or a row."""
    return [
        None, True, False, -1, 4, 10**59, -(10**59), "", " ", "Plain", "plain ", "\n", "do", "x" * 500,
        (None,), (True,), (1, 1), ((),), ("plain",), [], [1], ["look"], [("out",)], [()], {}, {1: 2}, {"look": ()},
        {(1, "plain"): [("out",)]}, deep(tuple, 30), deep(list, 30), wide(30), Rules.careful(), Rules.plain(LOOK),
        (Rules.hasty(),), NoPlace(3), [Rules.hasty()], {"a": [Rules.hasty()]},
    ]


def with_part(value, at, part):
    """The tuple with another part at this place."""
    return value[:at] + (part,) + value[at + 1:]


def with_course(pattern, key, course, *, words=(), closed=False):
    """Rules with this course for the key, plain ones for the other cell, and more keys of words that only end."""
    courses = {(cell, "plain"): OUT for cell in range(1, len(pattern) + 1)}
    for more in words:
        courses[more] = OUT
    courses[key] = course
    return Rules(pattern, courses, closed=closed)


def steady(many):
    """A course of so many moves, none of which is a check."""
    return tuple(("word", 1, "plain") for _ in range(many - 1)) + OUT


def two_cells(*, closed=False):
    """Rules for a look and an add with every kind of move, and with more words for both cells."""
    merged = (("do", 1), ("do", 2), ("out",))
    courses = {
        (1, "plain"): (("is", 2, "one", (("do", 1), ("on",))), ("claim", 1, "plain", "busy", LATE), *merged),
        (1, "busy"): (("key", (("note",), ("claim", 2, "plain", "one", OUT), ("do", 1), ("on",))), ("trust",), ("on",)),
        (1, "sure"): (("note",), ("set", "key"), ("set", "note"), ("wipe", "key"), ("wipe", "note"), *merged),
        (2, "plain"): (("is", 1, "sure", (("do", 2), ("out",))), ("word", 1, "plain"), ("do", 2), ("out",)),
        (2, "one"): (("out",),),
    }
    return Rules(LOOK_ADD, courses, closed=closed)
