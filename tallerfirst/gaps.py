"""Gaps: whom a person respects, how often it moves, and when queues come again."""

from math import gcd

from tallerfirst.checks import check_few, check_gap, check_person, check_queue
from tallerfirst.queues import stepped
from tallerfirst.settled import ring_of
from tallerfirst.times import settled_after


def respected(queue, person, *, gap):
    """Return the ascending list of the persons in the queue whom the person respects."""
    check_queue(queue)
    check_person(queue, person)
    check_gap(gap)
    return sorted([other for other in queue if other - person >= gap])


def weight(queue, person, *, gap):
    """Return the weight of the person."""
    check_queue(queue)
    check_person(queue, person)
    check_gap(gap)
    return _weights(queue, gap)[person]


def share(queue, person, *, gap):
    """Return the share of the steps in which the person moves in the long run, as (top, bottom)."""
    check_queue(queue)
    check_person(queue, person)
    check_gap(gap)
    weights = _weights(queue, gap)
    top = weights[person]
    bottom = sum(weights.values())
    common = gcd(top, bottom)
    return top // common, bottom // common


def cycle(queue, *, gap=1):
    """Return how many steps lead to the first queue that comes again, and after how many more it does."""
    check_queue(queue)
    check_gap(gap)
    if gap == 1:
        return settled_after(queue), ring_of(queue)
    check_few(len(queue))
    seen = {}
    present = queue
    while present not in seen:
        seen[present] = len(seen)
        present = stepped(present, gap)
    return seen[present], len(seen) - seen[present]


def _weights(queue, gap):
    """Return the weight of each person."""
    persons = sorted(queue, reverse=True)
    weights = {}
    respect = 0
    lowest = 0
    for person in persons:
        # Whom one person respects, every shorter one respects too.
        while persons[lowest] - person >= gap:
            respect += weights[persons[lowest]]
            lowest += 1
        weights[person] = 1 if lowest == 0 else respect
    return weights
