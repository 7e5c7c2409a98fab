"""Values and rules that several tests use."""

from warmsteps.errors import NoPlace
from warmsteps.rules import Rules
from warmsteps.sites import Site

LOOK = ("look",)
LOOK_ADD = ("look", "add")
ADD_TELL = ("add", "tell")
OUT = (("out",),)
LATE = (("do", 1), ("out",))


def deep(kind, many):
    """A tuple or list with so many levels."""
    value = kind()
    for _ in range(many - 1):
        value = kind([value])
    return value


def wide(many):
    """A tuple with two parts at each of so many levels: short to write, endless to go through."""
    value = ()
    for _ in range(many):
        value = (value, value)
    return value


def odd_values():
    """New values of every sort, none of which is a part of what the document calls a pattern, a course or a row."""
    return [
        None, True, False, -1, 4, 10**59, -(10**59), "", " ", "Plain", "plain ", "\n", "do", "x" * 500,
        (None,), (True,), (1, 1), ((),), ("plain",), [], [1], ["look"], [("out",)], [()], {}, {1: 2}, {"look": ()},
        {(1, "plain"): [("out",)]}, deep(tuple, 30), deep(list, 30), wide(30), Rules.careful(), Rules.plain(LOOK),
        (Rules.hasty(),), NoPlace(3), [Rules.hasty()], {"a": [Rules.hasty()]}, Site(Rules.hasty(), 1),
    ]


def with_part(value, at, part):
    """The tuple with another part at this place."""
    return value[:at] + (part,) + value[at + 1:]


def with_course(pattern, key, course, *, words=(), closed=False):
    """Rules with this course for the key, plain ones for the other cell, and more keys of words that only end."""
    courses = {(cell, "plain"): OUT for cell in range(1, len(pattern) + 1)}
    for more in words:
        courses[more] = OUT
    courses[key] = course
    return Rules(pattern, courses, closed=closed)


def steady(many):
    """A course of so many moves, none of which is a check."""
    return tuple(("word", 1, "plain") for _ in range(many - 1)) + OUT


def two_cells(*, closed=False):
    """Rules for a look and an add with every kind of move, and with more words for both cells."""
    merged = (("do", 1), ("do", 2), ("out",))
    courses = {
        (1, "plain"): (("is", 2, "one", (("do", 1), ("on",))), ("claim", 1, "plain", "busy", LATE), *merged),
        (1, "busy"): (("key", (("note",), ("claim", 2, "plain", "one", OUT), ("do", 1), ("on",))), ("trust",), ("on",)),
        (1, "sure"): (("note",), ("set", "key"), ("set", "note"), ("wipe", "key"), ("wipe", "note"), *merged),
        (2, "plain"): (("is", 1, "sure", (("do", 2), ("out",))), ("word", 1, "plain"), ("do", 2), ("out",)),
        (2, "one"): (("out",),),
    }
    return Rules(LOOK_ADD, courses, closed=closed)


def ladder(many):
    """Rules for a look that go wrong by so many hands, 2 to 6, and by no fewer, with any number of shapes.

    A hand that comes to a word makes it the next one, and makes it the first one again before it goes out; so the
    last word, at which a hand goes wrong, is there only while all the others are inside.
    """
    words = ("plain", "a", "b", "c", "d", "e")[:many]
    courses = {(1, words[-1]): (("do", 1), ("do", 1), ("out",))}
    for word, new in zip(words, words[1:]):
        courses[(1, word)] = (("do", 1), ("claim", 1, word, new, OUT), ("word", 1, "plain"), ("out",))
    return Rules(LOOK, courses)


def queue():
    """Rules for a look that are right for any number of hands: the ladder of two without what goes wrong."""
    return Rules(LOOK, {(1, "plain"): (("do", 1), ("claim", 1, "plain", "a", OUT), ("word", 1, "plain"), ("out",)),
                        (1, "a"): (("do", 1), ("claim", 1, "a", "b", OUT), ("word", 1, "plain"), ("out",)),
                        (1, "b"): LATE})


def fused(*, closed):
    """Rules for an add and a tell whose first cell does both; right if closed, else the second cell is skipped."""
    both = (("do", 1), ("do", 2), ("on",))
    return Rules(ADD_TELL, {(1, "plain"): (("do", 1), ("do", 2), ("word", 2, "skip"), ("word", 1, "both"), ("out",)),
                            (1, "both"): both, (2, "plain"): (("do", 2), ("out",)), (2, "skip"): OUT}, closed=closed)


def given_up(*, words=4):
    """Rules for a look that are right: the first other shape that comes makes the cell one that only looks."""
    late = (("claim", 1, "sure", "mega", LATE), ("wipe", "key"), ("do", 1), ("out",))
    courses = {(1, "plain"): (("claim", 1, "plain", "busy", LATE), ("do", 1), ("set", "note"), ("set", "key"),
                              ("word", 1, "sure"), ("out",)),
               (1, "busy"): LATE, (1, "sure"): (("key", late), ("note",), ("trust",), ("out",)), (1, "mega"): LATE}
    for word in ("more", "most")[:words - 4]:
        courses[(1, word)] = LATE
    return Rules(LOOK, courses)


def reread():
    """Rules for a look that are wrong: readers ask for the key again, but it may have come back meanwhile."""
    again = (("claim", 1, "sure", "busy", LATE), ("wipe", "key"), ("do", 1), ("set", "note"), ("set", "key"),
             ("word", 1, "sure"), ("out",))
    return Rules(LOOK, {(1, "plain"): (("claim", 1, "plain", "busy", LATE), ("do", 1), ("set", "note"),
                                       ("set", "key"), ("word", 1, "sure"), ("out",)),
                        (1, "busy"): LATE, (1, "sure"): (("key", again), ("note",), ("key", LATE), ("trust",),
                                                         ("out",))})


def hoard():
    """Rules for a look that go wrong by hands that wait behind a claim, of which there can be more and more.

    Two of those are needed behind the word "b", and none comes to wait there any more; a third hand writes the words
    between.
    """
    waiting = (("claim", 1, "c", "d", LATE), ("do", 1), ("out",))
    return Rules(LOOK, {(1, "plain"): (("claim", 1, "plain", "a", LATE), ("claim", 1, "b", "c", waiting), ("do", 1),
                                       ("out",)),
                        (1, "a"): (("do", 1), ("word", 1, "plain"), ("word", 1, "b"), ("out",)),
                        (1, "b"): LATE, (1, "c"): LATE, (1, "d"): (("do", 1), ("do", 1), ("out",))})
