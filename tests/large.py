"""Rules with up to forty moves and six words for a cell: those that take long."""

from tests.samples import LATE, LOOK, LOOK_ADD, OUT
from warmsteps.rules import Rules

WORDS = ("plain", "busy", "sure", "mega", "more", "most")


def right_look():
    """Right for any number of shapes: the second shape makes the cell one of three that only look."""
    late = (("claim", 1, "sure", "mega", LATE), ("wipe", "key"), ("do", 1), ("wipe", "key"), ("out",))
    return Rules(LOOK, {
        (1, "plain"): (("claim", 1, "plain", "busy", LATE), ("do", 1), ("set", "note"), ("set", "key"),
                       ("word", 1, "sure"), ("out",)),
        (1, "busy"): (("is", 1, "busy", LATE), ("do", 1), ("out",)),
        (1, "sure"): (("key", late), ("note",), ("trust",), ("out",)),
        (1, "mega"): (("do", 1), ("claim", 1, "mega", "more", OUT), ("out",)),
        (1, "more"): (("do", 1), ("claim", 1, "more", "most", OUT), ("wipe", "key"), ("out",)),
        (1, "most"): (("do", 1), ("wipe", "key"), ("note",), ("wipe", "key"), ("note",), ("word", 1, "most"), ("out",))})


def right_two_cells():
    """Right for any number of shapes: six words for both cells, and one hand at a time that writes."""
    late = (("do", 1), ("on",))
    writer = (("claim", 1, "plain", "busy", late), ("do", 1), ("set", "note"), ("set", "key"), ("word", 1, "sure"),
              ("on",))
    courses = {(1, word): late for word in WORDS}
    courses[(1, "plain")] = writer
    courses[(1, "sure")] = (("key", late), ("note",), ("note",), ("trust",), ("on",))
    for word in WORDS:
        courses[(2, word)] = (("do", 2), ("out",))
    courses[(2, "plain")] = (("claim", 2, "plain", "most", (("do", 2), ("out",))), ("do", 2), ("word", 2, "busy"),
                             ("word", 2, "plain"), ("out",))
    return Rules(LOOK_ADD, courses)


def wrong_by_four():
    """Wrong by four hands, and by no fewer: a ladder with halves that are written and asked on the way."""
    return Rules(LOOK, {
        (1, "plain"): (("wipe", "note"), ("set", "key"), ("wipe", "note"), ("do", 1),
                       ("claim", 1, "plain", "a", OUT), ("word", 1, "plain"), ("wipe", "key"), ("out",)),
        (1, "a"): (("wipe", "note"), ("do", 1), ("claim", 1, "a", "b", OUT), ("word", 1, "plain"), ("note",),
                   ("key", OUT), ("set", "note"), ("out",)),
        (1, "b"): (("set", "key"), ("do", 1), ("key", OUT), ("claim", 1, "b", "c", OUT), ("word", 1, "plain"),
                   ("out",)),
        (1, "c"): (("do", 1), ("do", 1), ("out",)),
        (1, "d"): (("do", 1), ("wipe", "note"), ("key", OUT), ("set", "key"), ("out",)),
        (1, "e"): (("note",), ("do", 1), ("note",), ("out",))})


def many_rows():
    """Right, with thousands of rows: hands that claimed are counted, and write halves in any sequence."""
    return Rules(LOOK, {
        (1, "plain"): (("claim", 1, "plain", "a", (("set", "note"), ("claim", 1, "plain", "c", LATE), ("out",))),
                       ("note",), ("word", 1, "b"), ("wipe", "note"), ("do", 1), ("note",), ("wipe", "key"),
                       ("set", "note"), ("word", 1, "c"), ("wipe", "key"), ("wipe", "key"), ("out",)),
        (1, "a"): (("wipe", "key"), ("do", 1), ("set", "key"), ("wipe", "note"), ("word", 1, "a"), ("out",)),
        (1, "b"): (("word", 1, "c"), ("word", 1, "a"), ("do", 1), ("out",)),
        (1, "c"): (("key", (("claim", 1, "b", "plain", LATE), ("out",))), ("set", "note"), ("wipe", "note"),
                   ("do", 1), ("out",))}, closed=True)
