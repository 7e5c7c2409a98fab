"""Many different rules, the same ones in each run: known rules, with some of their moves exchanged for others."""

import random

from tests.samples import LATE, LOOK, LOOK_ADD, OUT, fused, given_up, ladder, queue, reread, two_cells
from warmsteps.errors import WarmError
from warmsteps.forms import changed_at, moves_in
from warmsteps.rules import Rules


def seeds():
    """The rules from which the others are made."""
    return [Rules.careful(), Rules.hasty(), given_up(), reread(), two_cells(), two_cells(closed=True), ladder(3),
            queue(), fused(closed=True), fused(closed=False), Rules.plain(LOOK), Rules.plain(LOOK_ADD),
            Rules.plain(("take", "tell"))]


def made(number, *, changes=3, most=40):
    """The rules of this number: they have at most so many moves."""
    chance = random.Random(number)
    known = [rules for rules in seeds() if len(rules) <= most]
    rules = chance.choice(known)
    for _ in range(chance.randint(1, changes)):
        other = changed(chance, rules)
        if len(other) <= most:
            rules = other
    return rules


def changed(chance, rules):
    """Rules that differ by one move, or these ones if it can not be."""
    courses = rules.courses
    key = chance.choice(sorted(courses))
    path = chance.choice(moves_in(courses[key]))[0]
    move = some_move(chance, rules, key[0])
    way = chance.randint(1, 3)

    def change(course, at):
        if way == 1:
            return (*course[:at], move, *course[at:])
        if way == 2:
            return (*course[:at], *course[at + 1:])
        return (*course[:at], move, *course[at + 1:])

    courses[key] = changed_at(courses[key], path, change)
    try:
        return Rules(rules.pattern, courses, closed=rules.closed)
    except WarmError:
        return rules


def some_move(chance, rules, cell):
    """Any move; it may be one that cannot stand at this cell."""
    named = chance.randint(1, len(rules.pattern))
    word, new = chance.choice(rules.words(named)), chance.choice(rules.words(named))
    other = chance.choice([OUT, LATE, (("do", cell), ("out",)), (("do", 1), ("on",)), (("do", 1), ("do", 2), ("out",))])
    return chance.choice([
        ("key", other), ("is", named, word, other), ("claim", named, word, new, other), ("note",), ("trust",),
        ("set", "key"), ("set", "note"), ("wipe", "key"), ("wipe", "note"), ("word", named, word), ("do", named),
    ])
