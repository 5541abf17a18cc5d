"""What arguments must be: the checks that the modules share."""

from tallerfirst.errors import NoGap, NoNumber, NoPerson, NoQueue, NoSteps, NotAlike, TooMany

MOST_PERSONS = 40
MOST_HEIGHT = 10 ** 30
MOST_GAP = 10 ** 31
MOST_STEPS = 2000
MOST_FAR_STEPS = 10 ** 30
MOST_STEPS_BACK = 60
MOST_TRIED = 7


def is_integer(value, least, most):
    """Tell whether the value is an integer from `least` to `most`."""
    # To Python True and False are ints, to this package they are not integers.
    if not isinstance(value, int) or isinstance(value, bool):
        return False
    return least <= value <= most


def is_height(value):
    """Tell whether the value can be the height of a person."""
    return is_integer(value, -MOST_HEIGHT, MOST_HEIGHT)


def is_person(queue, value):
    """Tell whether the value is a person of the queue."""
    return is_height(value) and value in queue


def has_different_heights(value):
    """Tell whether the value is a tuple of 1 to 40 different heights."""
    if not isinstance(value, tuple) or not 1 <= len(value) <= MOST_PERSONS:
        return False
    for item in value:
        # The first look is enough for nearly all items, and much shorter.
        if type(item) is not int and not is_height(item):
            return False
    # Only integers come here: other items may have no order and no hash.
    return -MOST_HEIGHT <= min(value) and max(value) <= MOST_HEIGHT and len(set(value)) == len(value)


def check_queue(value):
    """Raise NoQueue unless the value is a queue."""
    if not has_different_heights(value):
        raise NoQueue(f"a queue is a tuple of 1 to {MOST_PERSONS} different integers")


def check_person(queue, value):
    """Raise NoPerson unless the value is a person of the queue."""
    if not is_person(queue, value):
        raise NoPerson("this is not a person of the queue")


def check_gap(value):
    """Raise NoGap unless the value is a gap."""
    if not is_integer(value, 1, MOST_GAP):
        raise NoGap(f"a gap is an integer from 1 to {MOST_GAP}")


def check_steps(value, most, least=0):
    """Raise NoSteps unless the value is a number of steps from `least` to `most`."""
    if not is_integer(value, least, most):
        raise NoSteps(f"the number of steps is an integer from {least} to {most}")


def check_number(value, most, least=0):
    """Raise NoNumber unless the value is an integer from `least` to `most`."""
    if not is_integer(value, least, most):
        raise NoNumber(f"the number is an integer from {least} to {most}")


def check_alike(queue, other):
    """Raise NotAlike unless the two queues have the same persons."""
    if sorted(queue) != sorted(other):
        raise NotAlike("the two queues do not have the same persons")


def check_few(persons):
    """Raise TooMany if there are too many persons to try all their queues."""
    if persons > MOST_TRIED:
        raise TooMany(persons)
