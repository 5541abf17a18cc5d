"""The phases of queues, which decide what queues become equal."""

from tallerfirst.checks import check_alike, check_few, check_number, check_queue
from tallerfirst.settled import ring_of
from tallerfirst.times import lifted, turns, wait_left, waits_of


def phase(queue):
    """Return the phase of the queue."""
    check_queue(queue)
    return _phase_of(_waits(queue))


def meet(queue, other):
    """Return the least number of steps after which two queues are equal, or None."""
    check_queue(queue)
    check_queue(other)
    check_alike(queue, other)
    waits = _waits(queue)
    other_waits = _waits(other)
    if _phase_of(waits) != _phase_of(other_waits):
        return None
    return _meeting_time(waits, other_waits)


def queues_with_phase(persons, phase):
    """Return the ascending list of all queues of the persons that have this phase."""
    check_queue(persons)
    ring = ring_of(persons)
    check_number(phase, ring - 1)
    check_few(len(persons))
    shortest, *taller = sorted(persons)
    if not taller:
        return [(shortest,)]
    found = []
    for line, waits in _lines(taller):
        # The phase asks for a wait of the shortest person, and each place gives another one.
        wait = (2 * waits[-1] + 1 - phase) % ring
        if wait in waits:
            place = waits.index(wait)
            found.append(line[:place] + (shortest,) + line[place:])
    return sorted(found)


def _waits(queue):
    """Return how often taller persons move before each person does, from the tallest person on."""
    return [wait for _, wait in waits_of(queue)]


def _phase_of(waits):
    """Return the phase of the queue with these waits."""
    number = 0
    for wait in waits[1:]:
        number = 2 * number + 1 - wait
    return number % ring_of(waits)


def _meeting_time(waits, other_waits):
    """Return the least number of steps after which two queues of one phase are equal."""
    moves = other_moves = 0
    levels = []
    # Once the shortest persons wait equally long, what is left of the queues without them is of one phase too.
    for wait, other_wait in reversed(list(zip(waits[1:], other_waits[1:]))):
        left = wait_left(wait, moves)
        other_left = wait_left(other_wait, other_moves)
        # The longer wait becomes like the other one when a single move is left of it.
        more = 0 if left == other_left else max(left, other_left) - 1
        moves += more
        other_moves += more
        levels.append((more, wait_left(wait, moves)))
        moves -= turns(moves, wait)
        other_moves -= turns(other_moves, other_wait)
    steps = 0
    for more, left in reversed(levels):
        steps = more + lifted(steps, left)
    return steps


def _lines(persons):
    """Return all queues of the persons, each with the waits of a shorter person in each place, from the front on."""
    tallest, *shorter = sorted(persons, reverse=True)
    lines = [((tallest,), [0, 1])]
    for person in shorter:
        lines = [_joined(line, waits, person, place) for line, waits in lines for place in range(len(waits))]
    return lines


def _joined(line, waits, person, place):
    """Put a person into a place of a queue of taller ones, which has these waits of a shorter person in each place."""
    behind = [2 * wait + 1 - waits[place] for wait in waits[place:]]
    return line[:place] + (person,) + line[place:], waits[:place + 1] + behind
