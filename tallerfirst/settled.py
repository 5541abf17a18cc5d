"""Settled queues and their numbers."""

from tallerfirst.checks import check_alike, check_number, check_queue
from tallerfirst.errors import NotSettled


def is_settled(queue):
    """Tell whether nobody has more than one taller person ahead."""
    check_queue(queue)
    return not _unsettled(queue)


def unsettled(queue):
    """Return the ascending list of the persons who are not settled."""
    check_queue(queue)
    return sorted(_unsettled(queue))


def number_of(queue):
    """Return the number of a settled queue."""
    check_queue(queue)
    return settled_number(queue)


def settled_queue(persons, number):
    """Return the settled queue of the persons with this number."""
    check_queue(persons)
    check_number(number, ring_of(persons) - 1)
    return queue_of_number(persons, number)


def steps_between(queue, other):
    """Return the least number of steps from a settled queue to another."""
    check_queue(queue)
    check_queue(other)
    check_alike(queue, other)
    return (settled_number(queue) - settled_number(other)) % ring_of(queue)


def ring_of(persons):
    """Return how many settled queues these persons have."""
    return 1 << (len(persons) - 1)


def settled_number(queue):
    """Return the number of a queue, or raise NotSettled."""
    if _unsettled(queue):
        raise NotSettled("a person has more than one taller person ahead")
    shorter = {person: many for many, person in enumerate(sorted(queue))}
    # The tallest person, who is the last one without a taller one ahead, does not count.
    number = -ring_of(queue)
    tallest = min(queue) - 1
    for person in queue:
        if person > tallest:
            number += 1 << shorter[person]
            tallest = person
    return number


def queue_of_number(persons, number):
    """Return the settled queue of the persons with this number, without any check."""
    ascending = sorted(persons)
    line = ascending[-1:]
    for shorter in range(len(ascending) - 2, -1, -1):
        # All in the line so far are taller: the index is how many of them are ahead.
        ahead = 1 - (number >> shorter & 1)
        line.insert(ahead, ascending[shorter])
    return tuple(line)


def _unsettled(queue):
    """Return the persons who are not settled, from the front on."""
    found = []
    # The two tallest of those ahead; as long as there is one only, nobody is below the second.
    tallest = queue[0]
    second = min(queue)
    for person in queue[1:]:
        if person < second:
            found.append(person)
        elif person < tallest:
            second = person
        else:
            second = tallest
            tallest = person
    return found
