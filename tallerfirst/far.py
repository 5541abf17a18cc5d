"""Queues and steps that are far away, found without simulation."""

from tallerfirst.checks import MOST_FAR_STEPS, check_person, check_queue, check_steps
from tallerfirst.times import turns, wait_left, waits_of


def queue_after(queue, steps):
    """Return the queue after this number of steps."""
    check_queue(queue)
    check_steps(steps, MOST_FAR_STEPS)
    return line_after(queue, steps)


def mover_at(queue, step):
    """Return the person who moves in a step."""
    check_queue(queue)
    check_steps(step, MOST_FAR_STEPS, least=1)
    waits = waits_of(queue)
    moves = step - 1
    for person, wait in reversed(waits[1:]):
        if wait_left(wait, moves) == 0:
            return person
        moves -= turns(moves, wait)
    return waits[0][0]


def place_after(queue, person, steps):
    """Return the index of the person in the queue after this number of steps."""
    check_queue(queue)
    check_person(queue, person)
    check_steps(steps, MOST_FAR_STEPS)
    return line_after(queue, steps).index(person)


def line_after(queue, steps):
    """Return the queue after the steps, without any check."""
    waits = waits_of(queue)
    left = []
    moves = steps
    for person, wait in reversed(waits[1:]):
        left.append((person, wait_left(wait, moves)))
        moves -= turns(moves, wait)
    # The tallest person never waits.
    left.append((waits[0][0], 0))
    left.reverse()
    return _line_of(left)


def _line_of(waits):
    """Return the queue whose persons, from the tallest on, have these waits: the way back from `waits_of`."""
    line = []
    # Each person ahead adds 2 ** k to a wait, if k in the line are both shorter than that one and ahead of it.
    # The number of the others is kept, because a new person changes it only for those ahead.
    others = []
    for person, wait in waits:
        place = 0
        left = wait
        while left > 0:
            left -= 1 << (len(line) - others[place])
            others[place] += 1
            place += 1
        line.insert(place, person)
        others.insert(place, len(line))
    return tuple(line)
