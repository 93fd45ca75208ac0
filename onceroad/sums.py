"""Sums of numbers bit by bit: numbers picked for a goal, and those that are free of the ones ahead."""

from onceroad.errors import NoNumbers
from onceroad.names import is_within
from onceroad.webs import has_bit

MOST_SUMMED = 40
HIGHEST_SUMMED = 1073741823


def sum_of(numbers):
    total = 0
    for number in numbers:
        total = total ^ number
    return total


def picks(numbers, goal):
    must_be_summed(numbers)
    if not is_summed(goal):
        raise NoNumbers(goal)
    rest = lessened((goal, 0), steps_of(numbers))
    if rest[0] != 0:
        return None
    return [at for at in range(len(numbers)) if has_bit(rest[1], at)]


def free_of(numbers):
    must_be_summed(numbers)
    # The last place of a step's choice is the one whose number brought the step.
    return [step[1].bit_length() - 1 for step in steps_of(numbers)]


def must_be_summed(thing):
    if not isinstance(thing, list) or len(thing) > MOST_SUMMED or not all([is_summed(one) for one in thing]):
        raise NoNumbers(thing)


def is_summed(thing):
    return is_within(thing, 0, HIGHEST_SUMMED)


# A step is a number other than 0 and a choice of places, a bit for each, whose numbers' sum it is. Each free place
# brings one, and the highest bit of a step is set in no step behind it.
def steps_of(numbers):
    steps = []
    for at, number in enumerate(numbers):
        step = lessened((number, 1 << at), steps)
        if step[0] != 0:
            steps.append(step)
    return steps


# Takes the highest bit of each step out of a number; so 0 is left of each number that is a sum of steps.
def lessened(step, steps):
    for other in steps:
        if (step[0] ^ other[0]) < step[0]:
            step = (step[0] ^ other[0], step[1] ^ other[1])
    return step
