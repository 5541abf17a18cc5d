"""Reading movers: the queues to which a row of movers belongs, and who is taller in them.

For a row of places nothing is known of the heights at first. It is read in all possible ways at once, and each
way keeps, for each place, the bits of the places that are surely taller: 1 << 2 for place 2, and so on.
"""

from itertools import permutations

from tallerfirst.checks import MOST_PERSONS, check_few, check_number, check_queue, is_integer, is_person
from tallerfirst.errors import NoRow, NotFitting
from tallerfirst.queues import move_first


def queues_with_row(persons, row):
    """Return the ascending list of all queues of the persons to which the row belongs."""
    check_queue(persons)
    _check_row(persons, row)
    check_few(len(persons))
    moved, others = _first_moves(persons, row)
    if _first_misfit(moved + others, row) is not None:
        return []
    return [(*moved, *order) for order in permutations(others)]


def misfit(persons, row):
    """Return how many movers of the row are the fewest that belong to no queue of the persons, or None."""
    check_queue(persons)
    _check_row(persons, row)
    moved, others = _first_moves(persons, row)
    return _first_misfit(moved + others, row)


def fitting_heights(size, places):
    """Return the ascending list of all queues of the persons 1 to `size` to which the place row belongs."""
    _check_places(size, places)
    return sorted([queue for taller in _readings(size, places) for queue in _queues_of(taller)])


def certain_taller(size, places):
    """Return the ascending list of all (a, b): in each queue with this place row, place a is taller than b."""
    _check_places(size, places)
    readings = _readings(size, places)
    if not readings:
        raise NotFitting("the place row belongs to no queue of these persons")
    every = range(size)
    # What one reading leaves open is different in two of its own queues.
    return [(a, b) for a in every for b in every if all([taller[b] >> a & 1 for taller in readings])]


def _check_row(persons, row):
    """Raise NoRow unless the row is a list of persons of the queue."""
    if not isinstance(row, list) or not all([is_person(persons, mover) for mover in row]):
        raise NoRow("a row is a list of persons of the queue")


def _check_places(size, places):
    """Raise the errors of a place row of so many persons."""
    check_number(size, MOST_PERSONS, least=1)
    if not isinstance(places, list) or not all([is_integer(place, 0, size - 1) for place in places]):
        raise NoRow(f"a place row is a list of integers from 0 to {size - 1}")
    check_few(size)


def _first_moves(persons, row):
    """Return the list of those who move, in the order of their first moves, and the ascending list of the others.

    In a queue to which the row belongs the movers stand in this order, ahead of the others. The order of the
    others has no part in it, because none of them comes to the front.
    """
    moved = []
    for mover in row:
        if mover not in moved:
            moved.append(mover)
    return moved, sorted([person for person in persons if person not in moved])


def _first_misfit(line, row):
    """Return how many movers of the row are the fewest that do not belong to the queue, or None.

    The line is used up.
    """
    tallest = max(line)
    for many, mover in enumerate(row, start=1):
        if line[0] != mover:
            return many
        move_first(line, tallest, 1)
    return None


def _readings(size, places):
    """Return for each way to read the place row whom it makes taller; each fitting queue belongs to one of them."""
    ways = [(list(range(size)), [0] * size)]
    for place in places:
        ways = [later for line, taller in ways if line[0] == place for later in _ways_to_move(line, taller)]
    return [taller for _, taller in ways]


def _ways_to_move(line, taller):
    """Return the line after a step, and whom it shows to be taller, for each place that can be the host."""
    first, *rest = line
    found = []
    for behind, other in enumerate(rest, start=1):
        if taller[other] >> first & 1:
            continue
        found.append((rest[:behind] + [first] + rest[behind:], _with_taller(taller, other, first)))
        if taller[first] >> other & 1:
            return found
        # Who goes past the other is taller than it.
        taller = _with_taller(taller, first, other)
    found.append((rest + [first], taller))
    return found


def _with_taller(taller, high, low):
    """Return who is taller than whom if also the place `high` is taller than the place `low`."""
    more = taller[high] | 1 << high
    return [above | more if place == low or above >> low & 1 else above for place, above in enumerate(taller)]


def _queues_of(taller):
    """Return all queues of the persons 1, 2, .. in which these places are taller."""
    queues = [()]
    # A queue grows by one place at a time; its persons are always 1, 2, .., so they make room for a new one.
    for place, above in enumerate(taller):
        high = [other for other in range(place) if above >> other & 1]
        low = [other for other in range(place) if taller[other] >> place & 1]
        longer = []
        for queue in queues:
            most = min([queue[other] for other in high], default=place + 1)
            least = max([queue[other] for other in low], default=0) + 1
            longer += [_with_person(queue, person) for person in range(least, most + 1)]
        queues = longer
    return queues


def _with_person(queue, person):
    """Return the queue with one more person at its end; all who are as tall as that one or taller grow by 1."""
    return tuple([other + 1 if other >= person else other for other in queue]) + (person,)
