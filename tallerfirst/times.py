"""When and how often persons move, in any queue.

All functions rest on one fact: if only the moves of a person and of all taller
ones are counted, the person waits for some moves of taller ones and from then
on has every second move.
"""

from tallerfirst.checks import MOST_FAR_STEPS, check_number, check_person, check_queue, check_steps


def moves_before(queue, person):
    """Return how often taller persons move before the person is first in front."""
    check_queue(queue)
    check_person(queue, person)
    # Those behind the person and shorter ones have no part in this, so the person is the shortest of the others.
    tall = [other for other in queue[:queue.index(person) + 1] if other >= person]
    return waits_of(tall)[-1][1]


def first_move(queue, person):
    """Return the first step in which the person moves."""
    return nth_move(queue, person, 0)


def nth_move(queue, person, number):
    """Return the step in which the person moves after `number` earlier moves."""
    check_queue(queue)
    check_person(queue, person)
    check_number(number, MOST_FAR_STEPS)
    waits = waits_of(queue)
    # The tallest person has nobody to take turns with.
    step = 1 + (number if person == waits[0][0] else 2 * number)
    for other, wait in waits:
        if other == person:
            step += wait
        elif other < person:
            step = lifted(step, wait)
    return step


def moves_of(queue, person, steps):
    """Return how often the person moves in the first steps."""
    check_queue(queue)
    check_person(queue, person)
    check_steps(steps, MOST_FAR_STEPS)
    waits = waits_of(queue)
    moves = steps
    for other, wait in reversed(waits):
        if other == person and person != waits[0][0]:
            return turns(moves, wait)
        if other < person:
            moves -= turns(moves, wait)
    return moves


def settling_time(queue):
    """Return the least number of steps after which the queue is settled."""
    check_queue(queue)
    return settled_after(queue)


def settled_after(queue):
    """Return the settling time, without any check."""
    latest = 0
    for _, wait in waits_of(queue):
        # The last move of the wait takes away the only taller person ahead,
        # so the person is settled by the move before it.
        latest = max(lifted(latest, wait), wait - 1)
    return latest


def waits_of(queue):
    """Return pairs from the tallest person on: the person, and how often taller ones move before it does."""
    pairs = []
    for person in queue:
        # The first move, counted among those of the person and of the taller ones ahead. Each of these puts it
        # off by the moves that it has before: one after its own wait, and one after each later move above it.
        first = 1
        place = 0
        for taller, wait in pairs:
            if taller < person:
                break
            first += first - wait
            place += 1
        pairs.insert(place, (person, first - 1))
    return pairs


def lifted(move, wait):
    """Count a move, so far counted among all taller ones' only, among those of a person with this wait, too."""
    return move if move <= wait else 2 * move - wait


def turns(moves, wait):
    """Return how many of the moves of a person with this wait and of all taller ones are the person's own."""
    return max(0, moves - wait + 1) // 2


def wait_left(wait, moves):
    """Return what is left of a wait after some moves of the person and of all taller ones."""
    # After its first move the person waits for one taller one after each move of its own.
    return wait - moves if moves <= wait else (moves - wait) % 2
