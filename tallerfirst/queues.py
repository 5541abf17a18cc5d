"""Queues, and their steps one by one."""

from tallerfirst.checks import MOST_STEPS, check_gap, check_person, check_queue, check_steps
from tallerfirst.checks import has_different_heights
from tallerfirst.far import line_after


def is_queue(value):
    """Tell whether the value, which may be any, is a queue."""
    return has_different_heights(value)


def host(queue, *, gap=1):
    """Return the person behind whom the first one goes, or None."""
    check_queue(queue)
    check_gap(gap)
    least = queue[0] + gap
    for other in queue:
        if other >= least:
            return other
    return None


def step(queue, *, gap=1):
    """Return the queue after one step."""
    check_queue(queue)
    check_gap(gap)
    return stepped(queue, gap)


def run(queue, steps, *, gap=1):
    """Return the queue after 0 to 2,000 steps."""
    check_queue(queue)
    check_steps(steps, MOST_STEPS)
    check_gap(gap)
    return ran(queue, steps, gap)


def movers(queue, steps, *, gap=1):
    """Yield the persons who move in the first 0 to 2,000 steps."""
    check_queue(queue)
    check_steps(steps, MOST_STEPS)
    check_gap(gap)
    line = list(queue)
    tallest = max(line)
    for _ in range(steps):
        yield line[0]
        move_first(line, tallest, gap)


def as_tall(queue, person):
    """Return the queue of the person and all taller ones."""
    check_queue(queue)
    check_person(queue, person)
    return tuple([other for other in queue if other >= person])


def taller_ahead(queue, person):
    """Return the list of the taller persons ahead of the person."""
    check_queue(queue)
    check_person(queue, person)
    ahead = queue[:queue.index(person)]
    return [other for other in ahead if other > person]


def ran(queue, steps, gap):
    """Return the queue after this number of steps, without any check."""
    # About so many steps one by one take as long as all of them at once.
    if gap == 1 and steps > 10 * len(queue):
        return line_after(queue, steps)
    line = list(queue)
    tallest = max(line)
    for _ in range(steps):
        move_first(line, tallest, gap)
    return tuple(line)


def stepped(queue, gap):
    """Return the queue after one step, without any check."""
    line = list(queue)
    move_first(line, max(line), gap)
    return tuple(line)


def move_first(line, tallest, gap):
    """Let the first person of the list move."""
    first = line.pop(0)
    least = first + gap
    behind = len(line)
    # Without this look at the tallest person, all would be looked at when nobody is tall enough.
    if least <= tallest:
        behind = 1
        while line[behind - 1] < least:
            behind += 1
    line.insert(behind, first)
