"""Settled queues and their numbers."""

from tallerfirst.checks import check_alike, check_number, check_queue
from tallerfirst.errors import NotSettled
from tallerfirst.queues import taller_ahead


def is_settled(queue):
    """Tell whether nobody has more than one taller person ahead."""
    return not unsettled(queue)


def unsettled(queue):
    """Return the ascending list of the persons who are not settled."""
    check_queue(queue)
    return [person for person in sorted(queue) if len(taller_ahead(queue, person)) > 1]


def number_of(queue):
    """Return the number of a settled queue."""
    if not is_settled(queue):
        raise NotSettled("a person has more than one taller person ahead")
    number = 0
    for shorter, person in enumerate(sorted(queue)[:-1]):
        if not taller_ahead(queue, person):
            number += 1 << shorter
    return number


def settled_queue(persons, number):
    """Return the settled queue of the persons with this number."""
    check_queue(persons)
    check_number(number, ring_of(persons) - 1)
    ascending = sorted(persons)
    line = ascending[-1:]
    for shorter in range(len(ascending) - 2, -1, -1):
        # All in the line so far are taller: the index is how many of them are ahead.
        ahead = 1 - (number >> shorter & 1)
        line.insert(ahead, ascending[shorter])
    return tuple(line)


def steps_between(queue, other):
    """Return the least number of steps from a settled queue to another."""
    check_queue(queue)
    check_queue(other)
    check_alike(queue, other)
    return (number_of(queue) - number_of(other)) % ring_of(queue)


def ring_of(persons):
    """Return how many settled queues these persons have."""
    return 1 << (len(persons) - 1)
