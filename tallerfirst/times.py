"""When and how often persons move, in any queue.

All functions rest on one fact: if only the moves of a person and of all taller
ones are counted, the person waits for some moves of taller ones and from then
on has every second move.
"""

from tallerfirst.checks import MOST_FAR_STEPS, check_number, check_person, check_queue, check_steps
from tallerfirst.settled import unsettled


def moves_before(queue, person):
    """Return how often taller persons move before the person is first in front."""
    check_queue(queue)
    check_person(queue, person)
    return _waits(queue)[person]


def first_move(queue, person):
    """Return the first step in which the person moves."""
    return nth_move(queue, person, 0)


def nth_move(queue, person, number):
    """Return the step in which the person moves after `number` earlier moves."""
    check_queue(queue)
    check_person(queue, person)
    check_number(number, MOST_FAR_STEPS)
    waits = _waits(queue)
    # The tallest person has nobody to take turns with.
    turns = number if person == max(queue) else 2 * number
    return _step_of_move(waits, person, waits[person] + turns + 1)


def moves_of(queue, person, steps):
    """Return how often the person moves in the first steps."""
    check_queue(queue)
    check_person(queue, person)
    check_steps(steps, MOST_FAR_STEPS)
    waits = _waits(queue)
    moves = steps
    for shorter in sorted([other for other in queue if other < person]):
        moves -= _turns(moves, waits[shorter])
    return moves if person == max(queue) else _turns(moves, waits[person])


def settling_time(queue):
    """Return the least number of steps after which the queue is settled."""
    check_queue(queue)
    waits = _waits(queue)
    latest = 0
    for person in unsettled(queue):
        # The last move of the wait takes away the only taller person ahead,
        # so the person is settled by the move before it.
        latest = max(latest, _step_of_move(waits, person, waits[person] - 1))
    return latest


def _waits(queue):
    """Return for each person, from the tallest on, how often taller ones move first."""
    places = {person: at for at, person in enumerate(queue)}
    waits = {}
    for person in sorted(queue, reverse=True):
        moves = 0
        # A taller one ahead moves after its own wait, and again after each later move of those above it.
        for taller, wait in waits.items():
            if places[taller] < places[person]:
                moves += 1 + moves - wait
        waits[person] = moves
    return waits


def _step_of_move(waits, person, move):
    """Return the step of a move that is counted among the person and all taller ones."""
    step = move
    for other, wait in waits.items():
        if other < person and step > wait:
            step += step - wait
    return step


def _turns(moves, wait):
    """Return how many of the moves fall to a person who has every second one after the wait."""
    return max(0, moves - wait + 1) // 2
