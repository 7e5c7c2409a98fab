"""Point [16] and the heading of warmsteps/texts.py: rules_text, weaving_text, read_rules, read_weaving."""

import random
import unittest

from tests.large import many_rows, right_look, right_two_cells, wrong_by_four
from tests.making import made
from tests.samples import (ADD_TELL, LATE, LOOK, LOOK_ADD, OUT, fused, given_up, ladder, odd_values, steady, two_cells,
                           with_course)
from warmsteps.errors import BadText
from warmsteps.least import least_weaving
from warmsteps.rules import Rules
from warmsteps.texts import read_rules, read_weaving, rules_text, weaving_text
from warmsteps.verdicts import verdict

HUGE = 10**59
CAREFUL = """open look
cell 1 busy
  do 1
  out
cell 1 plain
  claim 1 plain busy
    do 1
    out
  do 1
  set note
  set key
  word 1 sure
  out
cell 1 sure
  key
    do 1
    out
  note
  trust
  out"""
DEEP = """closed look tell
cell 1 plain
  is 2 plain
    claim 1 plain busy
      wipe key
      do 1
      on
    wipe note
    do 1
    on
  key
    do 1
    on
  do 1
  on
cell 1 busy
  do 1
  on
cell 2 plain
  do 2
  out"""


def sorted_deep():
    """The text of two courses deep, with its words ascending."""
    lines = DEEP.split("\n")
    return "\n".join([lines[0], *lines[15:18], *lines[1:15], *lines[18:]])


def line_of(text, *, read=read_rules):
    """The number of the line with which a text is refused."""
    try:
        read(text)
    except BadText as error:
        assert type(error.line) is int
        return error.line
    return None


def with_line(text, number, line):
    """The text with another line at this number, counted from 1; or none for None."""
    lines = text.split("\n")
    return "\n".join([*lines[:number - 1], *([] if line is None else [line]), *lines[number:]])


class RulesTextTest(unittest.TestCase):
    def test_as_the_document_says(self):
        self.assertEqual(rules_text(Rules.careful()), CAREFUL)
        self.assertEqual(read_rules(CAREFUL), Rules.careful())
        self.assertEqual(rules_text(Rules.plain(ADD_TELL)),
                         "open add tell\ncell 1 plain\n  do 1\n  on\ncell 2 plain\n  do 2\n  out")
        self.assertEqual(rules_text(rules=Rules.plain(LOOK)), "open look\ncell 1 plain\n  do 1\n  out")
        closed = Rules(LOOK, {(1, "plain"): LATE}, closed=True)
        self.assertEqual(rules_text(closed), "closed look\ncell 1 plain\n  do 1\n  out")
        self.assertEqual(read_rules(text="closed look\ncell 1 plain\n  do 1\n  out"), closed)

    def test_two_deep(self):
        rules = read_rules(sorted_deep())
        self.assertEqual(rules_text(rules), sorted_deep())
        self.assertIs(rules.closed, True)
        self.assertEqual(rules.pattern, ("look", "tell"))
        inner = (("wipe", "key"), ("do", 1), ("on",))
        self.assertEqual(rules.courses[(1, "plain")][0],
                         ("is", 2, "plain", (("claim", 1, "plain", "busy", inner), ("wipe", "note"), ("do", 1), ("on",))))

    def test_read_back(self):
        known = [Rules.careful(), Rules.hasty(), two_cells(), two_cells(closed=True), right_look(), right_two_cells(),
                 wrong_by_four(), many_rows(), given_up(words=6), fused(closed=True), fused(closed=False), ladder(6),
                 with_course(LOOK, (1, "plain"), steady(12))]
        known += [Rules.plain((first, second)) for first in ("look", "add", "tell", "take")
                  for second in ("add", "tell", "take")]
        for rules in [*known, *[made(number, changes=6) for number in range(150)]]:
            text = rules_text(rules)
            self.assertIs(type(text), str)
            again = read_rules(text)
            self.assertEqual(again, rules)
            self.assertEqual(rules_text(again), text)
            self.assertEqual(len(text.split("\n")), 1 + len(rules.courses) + len(rules))

    def test_what_is_read_does_the_same(self):
        for number in range(40):
            rules = made(number, changes=6)
            again = read_rules(rules_text(rules))
            self.assertEqual(verdict(again, 2), verdict(rules, 2))
            self.assertEqual(least_weaving(again, 2), least_weaving(rules, 2))

    def test_each_line_that_is_none(self):
        wrong = ["", " ", "open look", "cell 1", "cell", "cell 3 plain", "cell 0 plain", "cell 1 Plain", "cell 1 sevenxx",
                 "cell 1 ", "cell  1 plain", "cell 1 plain ", " cell 1 plain", "cell 1 plain sure", "  cell 1 plain",
                 "do 1", " do 1", "    do 1", "   do 1", "  do 1 ", "  do  1", "  do", "  do 3", "  do 0", "  do 01",
                 "  do one", "  do 1 2", "  Do 1", "  do -1", "  do +1", "  do 1\t", "\tdo 1", "  nothing", "  key 1",
                 "  key  ", "  is 1", "  is 3 plain", "  is plain", "  is 1 plain sure", "  claim 1 plain",
                 "  claim 3 plain plain", "  claim 1 plain sure busy", "  claim 1 plain SURE", "  note 1", "  set",
                 "  set 1", "  set keys", "  set key note", "  wipe", "  wipe word", "  word 1", "  word 1 sevenxx",
                 "  word 3 sure", "  word sure 1", "  word 1 a1", "  trust 1", "  on 2", "  out 1", "  (out,)", "  on,",
                 "  do 1\r", "\u0661"]
        # Line 3 is the first move of a course.
        for line in wrong:
            self.assertEqual(line_of(with_line(CAREFUL, 3, line)), 3, line)
        for line in wrong:
            if not line.startswith("cell 1 plain") or line != "cell 1 plain":
                self.assertEqual(line_of(with_line(CAREFUL, 2, line)), 2, line)

    def test_the_first_line(self):
        rest = "cell 1 plain\n  do 1\n  out"
        for line in ("", "open", "closed", "look", "open look look", "open looks", "open add", "open  look", "open look ",
                     " open look", "Open look", "open look add tell", "shut look", "open add look", "cell 1 plain",
                     "open, look", "open take take take", "open do"):
            self.assertEqual(line_of(f"{line}\n{rest}"), 1, line)
        self.assertIsNone(line_of(f"open look\n{rest}"))
        # A second one cannot stand there.
        self.assertEqual(line_of(f"open look\nopen look\n{rest}"), 2)
        self.assertEqual(line_of(f"{rest}\nopen look"), 1)
        self.assertEqual(line_of(""), 1)
        self.assertEqual(line_of("\n"), 1)

    def test_the_last_line(self):
        many = len(CAREFUL.split("\n"))
        for line in ("", " ", "  out", "  out ", "out", "cell 3 plain", "open look", "    out"):
            self.assertEqual(line_of(f"{CAREFUL}\n{line}"), many + 1, line)
        self.assertEqual(line_of(f"{CAREFUL}\n"), many + 1)
        for line in ("  out ", "   out", " out", "    out", "  outs", "  out 1", "", "cell 1 zz"):
            self.assertEqual(line_of(with_line(CAREFUL, many, line)), many, line)

    def test_blanks_and_where_lines_stand(self):
        lines = CAREFUL.split("\n")
        for number, line in enumerate(lines):
            for other in (f" {line}", f"{line} ", f"  {line}", line[1:], line.replace(" ", "  "), line.upper()):
                if other != line:
                    expected = number + 1
                    self.assertEqual(line_of(with_line(CAREFUL, number + 1, other)), expected, other)
            # An empty line cannot stand anywhere.
            self.assertEqual(line_of("\n".join([*lines[:number], "", *lines[number:]])), number + 1)

    def test_what_stands_behind_what(self):
        # Behind the line of a cell, no cell; behind a check, its other course; behind the end of that, the course.
        self.assertEqual(line_of("open look\ncell 1 plain\ncell 1 sure"), 3)
        self.assertEqual(line_of("open look\ncell 1 plain\n  key\n  do 1"), 4)
        self.assertEqual(line_of("open look\ncell 1 plain\n  key\n    out\n    out"), 5)
        self.assertEqual(line_of("open look\ncell 1 plain\n  key\n    out\ncell 1 sure"), 5)
        self.assertEqual(line_of("open look\ncell 1 plain\n  do 1\n    out"), 4)
        self.assertEqual(line_of("open look\ncell 1 plain\n  out\n  out"), 4)
        # That all together are no rules makes no line wrong.
        self.assertEqual(line_of("open look\ncell 1 plain\n  out\ncell 1 plain\n  out"), 6)

    def test_courses_stand_up_to_three_deep(self):
        three = "open look\ncell 1 plain\n  key\n    key\n      key"
        for more in ("", "        out", "      out", "    out", "cell 1 sure", "nothing"):
            self.assertEqual(line_of(f"{three}\n{more}"), 6)
        self.assertEqual(line_of(three), 6)
        good = "open look\ncell 1 plain\n  key\n    key\n      out\n    out\n  do 1\n  out"
        self.assertIsNone(line_of(good))

    def test_texts_that_end_amid_a_course(self):
        for text in (CAREFUL, sorted_deep()):
            lines = text.split("\n")
            reads = []
            for many in range(1, len(lines)):
                line = line_of("\n".join(lines[:many]))
                if line is None:
                    reads.append(many)
                else:
                    self.assertEqual(line, many + 1)
            # Only where a course of a word has ended, and there are rules without the others, it is a text.
            for many in reads:
                self.assertTrue(lines[many].startswith("cell"))
        self.assertEqual(line_of("open look"), 2)

    def test_lines_that_can_stand_but_are_no_rules(self):
        plain = "cell 1 plain\n  do 1\n  out"
        cases = [
            "open look\n" + plain + "\n" + plain,
            "open look\ncell 1 sure\n  out\n" + plain,
            "open look\ncell 1 sure\n  out",
            "open look\ncell 2 plain\n  out",
            "open look\n" + plain + "\ncell 2 plain\n  out",
            "open look add\n" + plain,
            "open look add\ncell 2 plain\n  do 2\n  out\n" + plain,
            "open look\ncell 1 plain\n" + "  do 1\n" * 12 + "  out",
            "open look\ncell 1 plain\n  on",
            "open look\ncell 1 plain\n  do 2\n  out",
            "open look\ncell 1 plain\n  word 1 sure\n  out",
            "open look\ncell 1 plain\n  is 1 sure\n    out\n  out",
            "open add tell\n" + plain + "\ncell 2 plain\n  on",
            "open add tell\ncell 1 plain\n  note\n  out\ncell 2 plain\n  out",
            "open add tell\ncell 1 plain\n  key\n    out\n  out\ncell 2 plain\n  out",
            "open look add\ncell 1 plain\n  out\ncell 2 plain\n  trust\n  out",
            "open look\n" + "\n".join(f"cell 1 {word}\n  out" for word in ("a", "b", "c", "d", "e", "f", "plain")),
            "open look\n" + "\n".join(f"cell 1 {word}\n" + "  do 1\n" * 10 + "  out" for word in ("a", "b", "c", "plain")),
        ]
        for text in cases:
            self.assertEqual(line_of(text), len(text.split("\n")) + 1, text)
        twelve = "open look\ncell 1 plain\n" + "  do 1\n" * 11 + "  out"
        self.assertEqual(read_rules(twelve).courses[(1, "plain")], (("do", 1),) * 11 + OUT)

    def test_no_text(self):
        for value in [*odd_values(), list(CAREFUL), {CAREFUL: 1}, (CAREFUL,), Rules.careful(), 3]:
            for read in (read_rules, read_weaving):
                if not isinstance(value, str):
                    self.assertEqual(line_of(value, read=read), 1)
        for value in (None, 3, [""], Rules.careful()):
            with self.assertRaises(BadText):
                read_rules(text=value)

    def test_many_texts_with_a_line_changed(self):
        """A text is read if it is the one of what is read, and is refused else."""
        chance = random.Random(9)
        read = 0
        for _ in range(1500):
            rules = made(chance.randint(0, 300))
            lines = rules_text(rules).split("\n")
            at = chance.randrange(len(lines))
            other = chance.choice([*lines, "  on", "    out", "  trust", "cell 2 plain", "  key", "    note", "      out"])
            way = chance.randint(1, 3)
            lines[at:at + (way != 1)] = [] if way == 2 else [other]
            text = "\n".join(lines)
            try:
                told = read_rules(text)
            except BadText as error:
                self.assertTrue(1 <= error.line <= len(text.split("\n")) + 1)
                # What stands ahead of a wrong line is not wrong.
                if error.line <= len(lines):
                    ahead = "\n".join(lines[:error.line - 1])
                    self.assertIn(line_of(ahead), (error.line, None) if ahead else (1,))
            else:
                read += 1
                self.assertEqual(rules_text(told), text)
        self.assertGreater(read, 100)


class WeavingTextTest(unittest.TestCase):
    def test_as_the_document_says(self):
        events = [(0, 1, 2), (0,), (17, 2, 0), (HUGE, 1, 3), (HUGE,)]
        text = f"0 comes 1 2\n0\n17 comes 2 0\n{HUGE} comes 1 3\n{HUGE}"
        self.assertEqual(weaving_text(events), text)
        self.assertEqual(weaving_text(events=tuple(events)), text)
        self.assertEqual(read_weaving(text), events)
        self.assertEqual(read_weaving(text=text), events)
        self.assertEqual([weaving_text([]), read_weaving("")], ["", []])
        self.assertEqual(len(events), 5)

    def test_read_back(self):
        for number in range(100):
            word, weaving = verdict(made(number, changes=6), 2)
            if word == "wrong":
                told = read_weaving(weaving_text(weaving))
                self.assertEqual(told, weaving)
                told.clear()
                self.assertEqual(read_weaving(weaving_text(weaving)), weaving)

    def test_lines_that_are_none(self):
        wrong = ["", " ", " 0", "0 ", "00", "01", "-1", "+1", "-0", "1.0", "1 ", "a", "0x1", "1_0", "\u0661", "0 comes",
                 "0 comes 1", "0 comes 1 4", "0 comes 3 0", "0 comes 0 0", "0 comes 1 -1", "0 comes 1 01", "0 comes 01 1",
                 "0 comes  1 1", "0  comes 1 1", "0 comes 1 1 ", "0 comes 1 1 1", " 0 comes 1 1", "0 came 1 1",
                 "0 Comes 1 1", "comes 1 1", "0 1 1", "0 comes a b", "1" * 61, "1" + "0" * 60, f"{10**60} comes 1 1",
                 "0 comes 1 1\r", "0\t", "None", "(0,)", "0,", "01 comes 1 1"]
        for line in wrong:
            for text, expected in ((f"{line}\n0", 1), (f"0\n{line}", 2), (f"5 comes 1 1\n{line}\n5", 2),
                                   (f"5\n5\n5\n{line}", 4)):
                self.assertEqual(line_of(text, read=read_weaving), expected, line)
            if line != "":
                self.assertEqual(line_of(line, read=read_weaving), 1)
        # Of two wrong lines the first one is named.
        self.assertEqual(line_of("0\nx\ny", read=read_weaving), 2)

    def test_lines_that_are_right(self):
        for line, event in (("0", (0,)), ("9" * 60, (10**60 - 1,)), ("1" + "0" * 59, (HUGE,)), ("0 comes 1 0", (0, 1, 0)),
                            ("3 comes 2 3", (3, 2, 3)), ("10", (10,))):
            self.assertEqual(read_weaving(line), [event])
        # What all lines together say makes no line wrong.
        self.assertEqual(read_weaving("3\n3\n3 comes 2 3\n3 comes 1 0"), [(3,), (3,), (3, 2, 3), (3, 1, 0)])

    def test_newlines(self):
        self.assertEqual(line_of("\n", read=read_weaving), 1)
        self.assertEqual(line_of("0\n", read=read_weaving), 2)
        self.assertEqual(line_of("0\n\n0", read=read_weaving), 2)
        self.assertEqual(line_of("\n0", read=read_weaving), 1)


if __name__ == "__main__":
    unittest.main()
