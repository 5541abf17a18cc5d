"""Queues, and their steps one by one."""

from tallerfirst.checks import MOST_STEPS, check_gap, check_person, check_queue, check_steps
from tallerfirst.checks import has_different_heights


def is_queue(value):
    """Tell whether the value, which may be any, is a queue."""
    return has_different_heights(value)


def host(queue, *, gap=1):
    """Return the person behind whom the first one goes, or None."""
    check_queue(queue)
    check_gap(gap)
    at = _place_of_host(queue, gap)
    return None if at is None else queue[at]


def step(queue, *, gap=1):
    """Return the queue after one step."""
    check_queue(queue)
    check_gap(gap)
    return stepped(queue, gap)


def run(queue, steps, *, gap=1):
    """Return the queue after 0 to 2,000 steps."""
    check_queue(queue)
    check_steps(steps, MOST_STEPS)
    check_gap(gap)
    present = queue
    for _ in range(steps):
        present = stepped(present, gap)
    return present


def movers(queue, steps, *, gap=1):
    """Yield the persons who move in the first 0 to 2,000 steps."""
    check_queue(queue)
    check_steps(steps, MOST_STEPS)
    check_gap(gap)
    present = queue
    for _ in range(steps):
        yield present[0]
        present = stepped(present, gap)


def as_tall(queue, person):
    """Return the queue of the person and all taller ones."""
    check_queue(queue)
    check_person(queue, person)
    return tuple([other for other in queue if other >= person])


def taller_ahead(queue, person):
    """Return the list of the taller persons ahead of the person."""
    check_queue(queue)
    check_person(queue, person)
    ahead = queue[:queue.index(person)]
    return [other for other in ahead if other > person]


def _place_of_host(queue, gap):
    """Return the index of the host of the first person, or None."""
    for at in range(1, len(queue)):
        if queue[at] - queue[0] >= gap:
            return at
    return None


def stepped(queue, gap):
    """Return the queue after one step, without any check."""
    at = _place_of_host(queue, gap)
    behind = len(queue) if at is None else at + 1
    return queue[1:behind] + queue[:1] + queue[behind:]
