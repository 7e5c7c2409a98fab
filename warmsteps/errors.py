"""All errors: each keeps the very value that it is made with."""


class WarmError(ValueError):
    """What all errors of the package are."""


class BadPattern(WarmError):
    """A value that is no pattern."""

    def __init__(self, value):
        super().__init__("this value is no pattern")
        self.value = value


class BadCourses(WarmError):
    """A value that is no dict of courses for a pattern, or has too many moves."""

    def __init__(self, value):
        super().__init__("this value is no dict of courses for the pattern")
        self.value = value


class BadCourse(WarmError):
    """The key (cell, word) of what is no course."""

    def __init__(self, place):
        super().__init__("the course of this cell and word is none")
        self.place = place


class NoPlace(WarmError):
    """A value that is no place of a move."""

    def __init__(self, value):
        super().__init__("this value is no place of a move that serves here")
        self.value = value


class BadShapes(WarmError):
    """A value that is no number of shapes."""

    def __init__(self, value):
        super().__init__("the number of shapes is no integer from 1 to 3")
        self.value = value


class BadHand(WarmError):
    """A value that is no hand."""

    def __init__(self, value):
        super().__init__("this value is no hand")
        self.value = value


class BadCell(WarmError):
    """A value that is no cell to which hands come."""

    def __init__(self, value):
        super().__init__("this value is no cell to which hands come")
        self.value = value


class BadShape(WarmError):
    """A value that is no own shape at a cell."""

    def __init__(self, value):
        super().__init__("this value is no own shape at this cell")
        self.value = value


class Inside(WarmError):
    """A hand that is to come, but is inside."""

    def __init__(self, hand):
        super().__init__("this hand is inside already")
        self.hand = hand


class Outside(WarmError):
    """A hand that is to move in a site, but is outside."""

    def __init__(self, hand):
        super().__init__("this hand is outside")
        self.hand = hand


class GoneWrong(WarmError):
    """A hand, or the state of one, that goes or has gone wrong."""

    def __init__(self, hand):
        super().__init__("this hand has gone wrong")
        self.hand = hand


class BadEvent(WarmError):
    """The number of the first event that cannot be done."""

    def __init__(self, number):
        super().__init__("the event of this number cannot be done")
        self.number = number


class TooFar(WarmError):
    """How many can be taken back, when others were asked."""

    def __init__(self, many):
        super().__init__("no more than this many can be taken back")
        self.many = many


class BadState(WarmError):
    """A value that has not the form of a state."""

    def __init__(self, value):
        super().__init__("this value is no state")
        self.value = value


class NotRight(WarmError):
    """Rules that are not right, where right ones are asked."""

    def __init__(self, value):
        super().__init__("these rules are not right")
        self.value = value


class NotWrong(WarmError):
    """A value that is no wrong weaving."""

    def __init__(self, value):
        super().__init__("this value is no wrong weaving")
        self.value = value


class OtherPattern(WarmError):
    """Rules that are not for the same sites as the first ones."""

    def __init__(self, value):
        super().__init__("these rules have another pattern")
        self.value = value


class BadProgram(WarmError):
    """A value that is no program."""

    def __init__(self, value):
        super().__init__("this value is no program")
        self.value = value


class BadPlacement(WarmError):
    """The number of the first placement that cannot stand."""

    def __init__(self, number):
        super().__init__("the placement of this number cannot stand")
        self.number = number


class BadInputs(WarmError):
    """The number of the first hand whose inputs are none."""

    def __init__(self, number):
        super().__init__("the inputs of the hand of this number are none")
        self.number = number


class Ended(WarmError):
    """A hand that is to move, but has ended."""

    def __init__(self, hand):
        super().__init__("this hand has ended")
        self.hand = hand


class NoSite(WarmError):
    """A value that is no site of the placements."""

    def __init__(self, value):
        super().__init__("this value is no site of the placements")
        self.value = value


class BadText(WarmError):
    """The number of the first wrong line of a text."""

    def __init__(self, line):
        super().__init__("this line of the text is wrong")
        self.line = line
