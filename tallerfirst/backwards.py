"""Back in time: the queues from which steps lead to a queue."""

from tallerfirst.checks import MOST_FAR_STEPS, MOST_PERSONS, MOST_STEPS_BACK
from tallerfirst.checks import check_few, check_number, check_queue, check_steps
from tallerfirst.settled import queue_of_number, ring_of, settled_number


def queues_before(queue):
    """Return the ascending list of all queues from which one step leads to the queue."""
    check_queue(queue)
    return sorted(_before(queue))


def has_queue_before(queue):
    """Tell whether there is a queue from which one step leads to the queue."""
    check_queue(queue)
    return bool(_before(queue))


def settled_before(queue, steps):
    """Return the settled queue that leads to a settled queue after this number of steps."""
    check_queue(queue)
    check_steps(steps, MOST_FAR_STEPS)
    return queue_of_number(queue, (settled_number(queue) + steps) % ring_of(queue))


def count_before(queue, steps):
    """Return the number of queues that lead to the queue after this number of steps."""
    check_queue(queue)
    check_steps(steps, MOST_STEPS_BACK)
    check_few(len(queue))
    # One step leads from a queue to one queue only, so none is found twice.
    sources = [queue]
    for _ in range(steps):
        sources = [earlier for later in sources for earlier in _before(later)]
    return len(sources)


def counts_by_before(size):
    """Return the list that has at index j the number of queues with exactly j queues one step before."""
    check_number(size, MOST_PERSONS, least=1)
    # A queue is built from the front on, by the rank of each person among those so far. One person can
    # have moved last for each second tallest directly behind a tallest, and for a tallest at the end.
    tallest_last = [1] + [0] * size
    other_last = [0] * (size + 1)
    for lower_ranks in range(size - 1):
        either = [one + two for one, two in zip(tallest_last, other_last)]
        second = [one + two for one, two in zip([0] + tallest_last, other_last)]
        other_last = [one + lower_ranks * two for one, two in zip(second, either)]
        tallest_last = either
    counts = [one + two for one, two in zip([0] + tallest_last, other_last)]
    while counts[-1] == 0:
        counts.pop()
    return counts


def _before(queue):
    """Return the queues from which one step leads to the queue."""
    found = []
    if queue[-1] == max(queue):
        found.append(queue[-1:] + queue[:-1])
    # The tallest of all ahead of the neighbour; at first there is nobody.
    highest = min(queue) - 1
    for at, neighbour in enumerate(queue[:-1]):
        if neighbour > highest:
            if highest < queue[at + 1] < neighbour:
                found.append(queue[at + 1:at + 2] + queue[:at + 1] + queue[at + 2:])
            highest = neighbour
    return found
