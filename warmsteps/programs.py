"""Stage 9: programs, their values, and a hand alone on the plain machine."""

from warmsteps.errors import BadProgram
from warmsteps.forms import is_integer, is_word

MOST_STEPS = 40
MOST_NAMES = 4
STEPS = ("take", "add", "tell")
LEAPS = ("jump", "branch")
OVER = "over"
FAULTED = "faulted"


def is_program(value):
    """Whether any value is a program, a list or tuple of steps."""
    if not isinstance(value, (list, tuple)) or not 1 <= len(value) <= MOST_STEPS:
        return False
    return all([is_step(step, len(value)) for step in value])


def is_value(value):
    """Whether any value is an integer or a record."""
    if not isinstance(value, tuple):
        return is_integer(value)
    if len(value) != 2 or not isinstance(value[0], tuple) or not isinstance(value[1], tuple):
        return False
    shape, values = value
    if not 1 <= len(shape) <= MOST_NAMES or len(values) != len(shape):
        return False
    if not all([is_word(name) for name in shape]) or not all([is_integer(worth) for worth in values]):
        return False
    return len(set(shape)) == len(shape)


def sites_of(program, rules):
    """The ascending list of all sites of the rules."""
    need_program(program)
    return [place for place in range(len(program)) if is_site(program, rules, place)]


def run(program, inputs, *, most=1000):
    """The tuple (diary, end) of a hand alone on the plain machine, behind so many steps or when it has ended."""
    need_program(program)
    diary = []
    hand = (0, (), 0)
    end = None
    while end is None and len(diary) < most:
        place = hand[0]
        end, hand, worth = plain_step(program, inputs, place, hand)
        if end is None:
            diary.append((place, worth))
            end = end_at(program, hand[0])
    return diary, end


def plain_step(program, inputs, place, hand):
    """The tuple (end, hand, worth) behind the step at a place, of a hand (place, stack, how many inputs are taken).

    The end is that by which the step is not done, or None. Worth is what was pushed or told.
    """
    step = program[place]
    name = step[0]
    stack, taken = hand[1:]
    if name == "jump":
        return None, (step[1], stack, taken), None
    if name == "take":
        if taken == len(inputs):
            return OVER, hand, None
        return None, (place + 1, (*stack, inputs[taken]), taken + 1), inputs[taken]
    if name == "look":
        at = place_in(step[1], stack)
        return looked(stack, at, place, hand)
    if name == "add":
        if not are_integers(stack[-2:]) or len(stack) < 2:
            return FAULTED, hand, None
        worth = stack[-2] + stack[-1]
        return None, (place + 1, (*stack[:-2], worth), taken), worth
    if not are_integers(stack[-1:]) or not stack:
        return FAULTED, hand, None
    if name == "tell":
        return None, (place + 1, stack[:-1], taken), stack[-1]
    return None, (step[1] if stack[-1] == 0 else place + 1, stack[:-1], taken), None


def looked(stack, at, place, hand):
    """As plain_step, for a look at this place in the values of a record, None if there is none."""
    if at is None or not stack or not isinstance(stack[-1], tuple) or at >= len(stack[-1][1]):
        return FAULTED, hand, None
    worth = stack[-1][1][at]
    return None, (place + 1, (*stack[:-1], worth), hand[2]), worth


def place_in(name, stack):
    """The place of a name in the shape of the record on top of a stack, or None."""
    if not stack or not isinstance(stack[-1], tuple) or name not in stack[-1][0]:
        return None
    return stack[-1][0].index(name)


def end_at(program, place):
    """The end of a hand that has come to this place, or None."""
    return OVER if place == len(program) else None


def is_site(program, rules, place):
    """Whether a place of a program is a site of the rules."""
    words = [step[0] for step in program[place:place + len(rules.pattern)]]
    if words != list(rules.pattern):
        return False
    if not rules.closed or len(words) == 1:
        return True
    return not any([step[0] in LEAPS and step[1] == place + 1 for step in program])


def need_program(value):
    """Raise BadProgram for any value that is no program."""
    if not is_program(value):
        raise BadProgram(value)


def is_step(value, many):
    """Whether any value is a step of a program of so many steps."""
    if not isinstance(value, tuple) or len(value) == 0 or not isinstance(value[0], str):
        return False
    if len(value) == 1:
        return value[0] in STEPS
    if len(value) != 2:
        return False
    if value[0] == "look":
        return is_word(value[1])
    return value[0] in LEAPS and is_integer(value[1]) and 0 <= value[1] <= many


def are_integers(values):
    """Whether all these values of a stack are integers, not records."""
    return not any([isinstance(value, tuple) for value in values])
